import PyProof.Rows.All
import Wide.All
import OpenK.AllK
import Wide.FinOn
import HandS.ForMost
import HandS.RaiseMore
import PyProof.ReprRoads
import HandS.SetFor
import HandS.Strs
import PyProof.Rows.SortShellAny
import PyProof.StrLawsRepr
import PyProof.Rows.ReprOcc
import PyProof.P3Eq
import PyProof.ReprLen
import HandS.Wide
import HandS.Walk
import HandS.Style
import HandS.TupAny
import HandS.Base
import HandS.Call
import HandS.List
import HandS.Comp
import HandS.Dict
import HandS.Iter
import KE.GoesEnum
import HandS.More
import HandS.SortInts
import KE.SortData
import KE.KDictCopyH
import KE.KDictSum
import HandS.Conv
import KE.KDictPairs
import PySem.Challenge.RW_bothtimes_k20_whole_known_on_both_times
import HandS.Codes
import HandS.Defaults
import HandS.MakeKwOnly
set_option Elab.async false
set_option linter.all false
set_option maxRecDepth 100000
set_option maxHeartbeats 16000000
/-! Defs that are called while no repr is under way: so repr of data may be asked in them. -/
namespace L2
namespace Gd
open PySem PySem.Spec PyProof.Rows
/-- as FnOk, where no repr is under way -/
structure FnG (P : Program) (w : World) (K : PySem.W.Frag) (mg : Str → Option Value) (base : Heap) (CX : CXT) (k : Nat) (f : Addr) (fd : FuncData) (ps : List Str) (sp : Sp) : Prop where
  len : ∀ vs H Q E, sp vs H Q E → vs.length = ps.length
  run : ∀ (A : Around) (outer : List Env) (s : Shared) (H : Hp) (args : Args) (us : List Value) (vs : List V) (Q : VK) (E : XK), A.guards = some [] → Room k A → Env0 P w K mg base A outer s H → BindsTo s fd args (ps.zip us) → Vals vs us → sp vs H Q E →
    codeAny (model P w) A (.call (.ref f) args) (CR CX outer P w H s Q E) s
section
variable {P : Program} {w : World} {K : PySem.W.Frag} {mg : Str → Option Value} {base : Heap} {k : Nat}
/-- a def by its body, where no repr is under way -/
theorem okG {x qual : Str} {st : Stmt} {f : Addr} {fd : FuncData} {N ps : List Str} {sp : Sp} (F : Fun K x qual st f fd) (S : FnScope N ps (defScope st)) (len : ∀ vs H Q E, sp vs H Q E → vs.length = ps.length)
    (body : ∀ (cdv : Value) (A : Around) (outer : List Env) (s : Shared) (H : Hp) (vs : List V) (Q : VK) (E : XK), A.guards = some [] → Room k (A.deeper (envOfC qual (defScope st) s.heap.objs.size f cdv)) → sp vs H Q E →
      ∃ t, PSs (cxOf CX0 P w K mg base N qual (defScope st) f cdv A outer s H E).nox (defBody st) t ∧ t { nx := fun _ H' => Q .non H', rt := Q } (start N vs) H) : FnG P w K mg base CX0 (k + 1) f fd ps sp := by
  obtain ⟨oc, od, kV, doc, pm, an, cdv, ct, osl, rfl, lk, hcd⟩ := F.ex
  refine ⟨len, fun A outer s H args us vs Q E hg hr e0 hb r hsp => ?_⟩
  have kept : ∀ b o, base.get? b = some o → s.heap.get? b = some o := fun b o e => (e0.bs b o e).1
  have inK : K.In s.heap := e0.mod.kin.keeps kept
  have kinds : ∀ y ∈ ps.zip us, (defScope st).names.lookup y.1 = some .local ∨ ((defScope st).names.lookup y.1 = some .cell ∧ ((cellsFrom (s.heap.objs.size + 1) (defScope st).names []).lookup y.1).isSome = true) := by
    rintro ⟨n, v⟩ hy
    cases S.par n (List.of_mem_zip hy).1 with
    | inl q => exact .inl q
    | inr q => exact .inr ⟨q, PySem.W.cellsFrom_some _ _ _ (.inl q)⟩
  refine codeAny_call_function hr.depth (inK _ _ lk) rfl S.co S.gen rfl (PySem.W.codeRec_of inK hcd) (hb _ _ _ _ (wpAny_newFunctionEnv_cells S.kind kinds fun env he s1 z => ?_))
  subst he
  refine ⟨(e0.mod.nolimit.keeps kept).keeps z.toInCall.keep, codeAny_func ?_⟩
  obtain ⟨t, ht, hq⟩ := body cdv A outer s H vs Q E hg (hr.deeper _) hsp
  have J0 : Inv (cxOf CX0 P w K mg base N qual (defScope st) f cdv A outer s H E) [] (start N vs) H s1 := inv_start S hr.hd e0 (len _ _ _ _ hsp) r z
  refine wpAny_mono (ht.nox.run [] s1 (start N vs) H _ J0 hq) (fun fl s' hs => ?_) fun _ _ hs => hs
  match fl, hs with
  | .ret u, ⟨v, σ', H', J, rv, q⟩ => exact ⟨v, H', J.os, J.bare, J.base, J.hok, rv, q⟩
  | .next, ⟨σ', H', J, q⟩ => exact ⟨.non, H', J.os, J.bare, J.base, J.hok, rfl, q⟩
  | .brk, ⟨_, _, _, q⟩ => exact q.elim
  | .cont, ⟨_, _, _, q⟩ => exact q.elim
end
section
variable {X : Cx} {CX : CXT} {k : Nat} {f : Addr} {fd : FuncData} {ps : List Str} {sp : Sp} {E : XK} {x : Str} {p pos : Pos} {e : Expr} {es : List Expr} {t : TA}
/-- f(e, ..), f such a def -/
theorem pe_callG (F : FnG X.prog X.w X.K X.mg X.base CX k f fd ps sp) (hgd : X.A.guards = some []) (hr : Room k X.A) (hg : Gl X x) (hm : X.mg x = some (.ref f)) (hk : PySem.W.keepIn X.K (.ref f) = true) (hb : Binds X.K fd ps []) (hx : Passes CX X E)
    (ha : PA X (e :: es) t) (hdb : (x == ("__debug__" : Str)) = false := by decide) (he : starEach (e :: es) X.env = (false, eval e X.env) :: starEach es X.env := by rfl) (hpl : (backTo pos (starEach es X.env)).any (·.1) = false := by rfl) :
    PE X (.Call (.Name x p) (e :: es) [] pos) (tCall sp [] E t) := by
  refine ⟨fun pins s σ H Q I h => wpAny_Call_Name_kw (ld_glob I hg hm ?_ hdb)⟩
  refine PySem.W.callWith_K (h₀ := X.base) I.ok.mod.kin hk (thn (ha.run pos pins s σ H _ I h) fun us s1 hh => ?_) he hpl
  obtain ⟨vs, H1, I1, r, q⟩ := hh
  have hl : (us ++ []).length = ps.length := by
    rw [List.append_nil, ← Paired.length r, ← F.len _ _ _ _ q, List.append_nil]
  refine ⟨I1.kIn, wpAny_call (codeAny_mono (F.run X.A X.stack s1 H1 ⟨us, []⟩ (us ++ []) (vs ++ []) Q E hgd hr I1.env0 (hb s1 us I1.kIn hl) (r.append .nil) q) fun rs s' hq => ?_)⟩
  match rs, hq with
  | .error er, hq => exact hx pins σ H1 s1 er s' I1 hq
  | .ok (.ret u), hq => exact I1.after hq
  | .ok .next, hq => exact False.elim hq
  | .ok .brk, hq => exact False.elim hq
  | .ok .cont, hq => exact False.elim hq
/-- repr(x), x data without dicts -/
def rRepr (K : PySem.W.Frag) : List V → Hp → VK → Prop := fun xs H Q => ∃ (x : V) (d : PyData), xs = [x] ∧ Dp K H x d ∧ d.showable = true ∧ d.hasDict = false ∧ d.depth ≤ 60 ∧ d.shown.length ≤ sizeLine ∧ Q (.str d.shown) H
theorem call_repr (hgd : X.A.guards = some []) (hu : X.A.units + 64 < cLine) : CallR X (.builtin "repr") (rRepr X.K) := by
  intro pins s σ H xs us Q I r h
  obtain ⟨x, d, rfl, hd, hs, hn, hp, hz, q⟩ := h
  obtain ⟨u, rfl, ru⟩ := vals1 r
  obtain ⟨as, hr⟩ := hd.reads I d x u ru
  have tail : ∀ {a : Addr}, Reads s.heap (.ref a) d as → wpAny (model X.prog X.w) X.A (call (.builtin "repr") [.ref a]) (EP X pins σ Q) X.xe s := fun {a} r1 =>
    repr_of_reads' r1 hs (fun z => by rw [hn] at z; cases z) hgd (by omega) (fun _ _ e => e) (fun h' w' tk k => ⟨.str d.shown, H, I.kept (t' := tk) k, ⟨_, rfl⟩, q⟩) hz
  cases hd with
  | non => cases ru; exact PySem.P.repr_of_none ⟨.str _, H, I.tok _, ⟨_, rfl⟩, q⟩
  | bl b => cases ru; exact PySem.P.repr_of_bool ⟨.str _, H, I.tok _, ⟨_, rfl⟩, q⟩
  | int i =>
    obtain ⟨tk, rfl⟩ := ru
    exact PySem.P.repr_of_int (of_decide_eq_true hs) ⟨.str _, H, I.tok _, ⟨_, rfl⟩, q⟩
  | str y => obtain ⟨tk, rfl⟩ := ru; exact PySem.P.repr_of_str ⟨.str _, H, I.tok _, ⟨_, rfl⟩, q⟩ hz
  | lst a b => cases ru; exact tail hr
  | tup a b => cases ru; exact tail hr
end
/-! ### the end of a law -/
section
variable {P : Program} {w : World} {K : PySem.W.Frag} {mg mb : Str → Option Value} {k : Nat} {fa a : Addr} {fd : FuncData} {x : Str} {sp : Sp} {z : Shared} {us : List Value} {ns : List Int}
/-- from an abstract heap in which nothing but the script is tracked, and that as it stands -/
theorem law_core (KX : K.In z.heap) (hns : z.heap.Ns mainGlobals mg) (hb : z.heap.Ns builtinsNs mb) (hbb : ∀ x : Str, x ≠ "__name__" → mb x = bootBuiltins x) (hlim : z.heap.NoLimit) (hg : z.gens = #[])
    (hr : Room k callerA) (F : ∀ base : Heap, K.In base → base.Ns mainGlobals mg → FnG P w K mg base CX0 k fa fd [x] sp) (hbind : ∀ (s : Shared) (u : Value), BindsTo s fd ⟨[u], []⟩ [(x, u)])
    {H : Hp} (only : Only H) (hok : HOk P w H z.heap) (tell : ∀ b o es ep, z.heap.get? b = some o → o.data = .dict es ep → H b = none) (apart : ∀ b o, K.lookup b = some o → H b = none) (hsp : sp [.ref a] H (fun v _ => v = .bl true) fun _ _ _ => False) :
    codeAny (model P w) callerA (.call (.ref fa) ⟨[.ref a], []⟩) (fun r s' => r = .ok (.ret (.bool true)) ∧ OldK z.heap s'.heap ∧ s'.os = z.os ∧ AllBare s'.gens) z := by
  have ns2 : ∀ {b : Addr} {m : Str → Option Value}, z.heap.Ns b m → (hidT z.heap H).Ns b m := by
    rintro b m ⟨o, es, ep, e, d, r⟩
    exact ⟨o, es, ep, hidT_get e (tell b o es ep e d), d, r⟩
  have kin : K.In (hidT z.heap H) := fun b o e => hidT_get (KX b o e) (apart b o e)
  have md : Mod K mg (hidT z.heap H) := ⟨kin, ns2 hns, ⟨mb, ns2 hb, hbb⟩, by
    obtain ⟨mc, h1, h2⟩ := hlim
    exact ⟨mc, ns2 h1, h2⟩⟩
  have e0 : Env0 P w K mg (hidT z.heap H) callerA [] z H := ⟨rfl, md, fun b o e => of_hidT e, Nat.le_of_eq (hidT_size _ _), trivial, fun b hm => (nomatch (show b ∈ ([] : List Addr) from hm)), hok, .of_eq hg⟩
  refine codeAny_mono ((F _ kin (ns2 hns)).run callerA [] z H ⟨[.ref a], []⟩ [.ref a] [.ref a] _ _ rfl hr e0 (hbind z (.ref a)) (.cons rfl .nil) hsp) fun r s' h => ?_
  match r, h with
  | .error e, h => exact False.elim h
  | .ok .next, h => exact False.elim h
  | .ok .brk, h => exact False.elim h
  | .ok .cont, h => exact False.elim h
  | .ok (.ret u), ⟨v, H', os, bare, un, hok', r', q⟩ =>
    have q' : v = .bl true := q
    subst q'
    obtain rfl : u = Value.bool true := r'
    refine ⟨rfl, OldK.of_keep fun b o e => ?_, os, bare⟩
    rcases only b with n | ⟨ob, xs, y⟩
    · exact un.keep b o e n (fun hm => (nomatch (show b ∈ ([] : List Addr) from hm))) (fun hm => nomatch hm)
    · have e1 := (hok b _ y).1
      rw [e] at e1
      cases e1
      exact (hok' b _ (un.frzs b _ _ y)).1
theorem law_runs (KX : K.In z.heap) (hns : z.heap.Ns mainGlobals mg) (hb : z.heap.Ns builtinsNs mb) (hbb : ∀ x : Str, x ≠ "__name__" → mb x = bootBuiltins x) (hlim : z.heap.NoLimit) (hg : z.gens = #[])
    (ha : z.heap.get? a = some { cls := .type "list", data := .seq us.toArray }) (hi : IntsAre us ns) (hl : ns.length ≤ sizeLine) (hr : Room k callerA) (F : ∀ base : Heap, K.In base → base.Ns mainGlobals mg → FnG P w K mg base CX0 k fa fd [x] sp)
    (hbind : ∀ (s : Shared) (u : Value), BindsTo s fd ⟨[u], []⟩ [(x, u)]) (hsp : ∀ H : Hp, Only H → SqL K H a (ns.map V.int) → sp [.ref a] H (fun v _ => v = .bl true) fun _ _ _ => False) :
    codeAny (model P w) callerA (.call (.ref fa) ⟨[.ref a], []⟩) (fun r s' => r = .ok (.ret (.bool true)) ∧ OldK z.heap s'.heap ∧ s'.os = z.os ∧ AllBare s'.gens) z := by
  have rv := vals_ints hi
  have lenV := hi.length
  cases hk : K.lookup a with
  | some o =>
    have e := KX a o hk
    rw [ha] at e
    cases e
    refine law_core KX hns hb hbb hlim hg hr F hbind (H := fun _ => none) (fun _ => .inl rfl) (fun b u y => nomatch y) (fun _ _ _ _ _ _ => rfl) (fun _ _ _ => rfl) (hsp _ (fun _ => .inl rfl) ?_)
    exact .inr ⟨_, us.toArray, _, hk, rfl, rfl, rfl, by rw [List.size_toArray, lenV]; exact hl, by simpa using rv⟩
  | none =>
    have at1 : ∀ b u, (if b = a then some (HO.frz { cls := .type "list", data := .seq us.toArray } (.lst (ns.map V.int))) else none) = some u → b = a ∧ u = .frz { cls := .type "list", data := .seq us.toArray } (.lst (ns.map V.int)) := by
      intro b u y
      by_cases h : b = a
      · rw [if_pos h] at y
        exact ⟨h, (Option.some.inj y).symm⟩
      · rw [if_neg h] at y
        cases y
    have on : Only (fun b => if b = a then some (HO.frz { cls := .type "list", data := .seq us.toArray } (.lst (ns.map V.int))) else none) := fun b => by
      by_cases h : b = a
      · exact .inr ⟨_, _, if_pos h⟩
      · exact .inl (if_neg h)
    refine law_core KX hns hb hbb hlim hg hr F hbind on (fun b u y => ?_) (fun b o es ep e d => if_neg fun h => ?_) (fun b o e => if_neg fun h => ?_) (hsp _ on (.inl (.inr ⟨_, if_pos rfl⟩)))
    · obtain ⟨rfl, rfl⟩ := at1 b u y
      exact ⟨ha, by rw [List.length_map]; exact hl, us, _, rv, ha⟩
    · rw [h, ha] at e
      cases e
      cases d
    · rw [h, hk] at e
      cases e
end
/-- the goal that the head leaves, from a law's promise -/
theorem walkG {l : PySem.W.OpenLaw} {n k : Nat} {q : Program} {loose : List Str} {XP : (Str → Option Value) → Heap → Prop} {YP : World → Heap → Prop} {d : DefRec} {K : Params → PySem.W.Frag} {sp : World → Sp} {x : Str}
    (hn : l.most = some n) (hn2 : n ≤ sizeLine) (hdf : d.params.defaults = []) (hr : Room k callerA) (hY : ∀ (w : World) (h : Heap), YP w h → (K w.params).In h)
    (F : ∀ (w : World) (mg : Str → Option Value) (fa : Addr) (h : Heap), (K w.params).In h → h.Ns mainGlobals mg → mg d.name = some (.ref fa) →
      ∃ fd : FuncData, (∀ (s : Shared) (u : Value), BindsTo s fd ⟨[u], []⟩ [(x, u)]) ∧ ∀ base : Heap, (K w.params).In base → base.Ns mainGlobals mg → FnG l.prog w (K w.params) mg base CX0 k fa fd [x] (sp w))
    (hsp : ∀ (w : World) (H : Hp) (a : Addr) (ns : List Int), ns.length ≤ n → Only H → SqL (K w.params) H a (ns.map V.int) → sp w [.ref a] H (fun v _ => v = .bl true) fun _ _ _ => False) :
    PySem.W.WalkO q loose XP YP l.row.toRowW d [] (fun f vs => PySem.call f vs) := by
  refine Att.attach_call hn hdf fun w s0 s1 mg mb fa o pm cd doc a vs ns G Y ho hd hcd hmg hobj hints hlen hg => ?_
  have KX := hY w _ Y
  obtain ⟨fd, hb, hF⟩ := F w mg fa _ KX G.T.g hmg
  exact law_runs KX G.T.g G.T.b G.T.builtins G.T.nolimit hg hobj hints (Nat.le_trans hlen hn2) hr hF hb fun H hO hS => hsp w H a ns hlen hO hS
end Gd
end L2
/-! set(a list of numbers), and sorted of such a set, whatever its size below the scan's bound. -/
namespace L2
namespace SetL
open PySem PySem.Spec PyProof.Rows
/-- a set as it is born -/
abbrev born (w : World) : Obj := { cls := .type "set", dict := none, data := .set #[] 0 (.fresh 0 0 (!w.params.followText "set-order")) }
section
variable {P : Program} {w : World} {A : Around} {E : Value → Shared → Prop} {s : Shared} {l : Addr} {items : Array Value}
theorem set_of_list (ns : List Int) {Q : Value → Shared → Prop} (hh : A.handled = none) (hl : s.heap.IsList l items) (hit : IntsAre items.toList ns) (hb : ns.length + 1 < scanBound)
    (h : ∀ (h' : Heap) (tk c : Nat), SetR w h' s.heap.objs.size (fun j => decide (j ∈ ns)) c → c ≤ ns.length → (∀ b o, s.heap.get? b = some o → h'.get? b = some o) → Q (.ref s.heap.objs.size) { s with heap := h', toks := tk }) :
    wpAny (model P w) A (call (.type "set") [.ref l]) Q E s := by
  have many : items.size = ns.length := by
    rw [← Array.length_toList]
    exact IntsAre.length hit
  obtain ⟨c, tl, hmro⟩ := F.called_set.mro
  have hmade := F.called_set.made
  have hsub := F.called_set.sub
  refine wpAny_call (codeAny_of_tree ?_)
  show wpAny _ _ (callAny (.type "set") _) _ _ _
  refine wpAny_pure ⟨Code.quiet_builtin _ (by decide +kernel), codeAny_builtin F.entry_type_call ?_⟩
  rw [Around.under_plain (weight_type_call_type "set" [.ref l] []) rfl]
  have h1 := F.called_set.notType
  have h2 := F.called_set.canCreate
  have hct := F.typeCall_set_1 (.ref l)
  repeat (any_goals (first | assumption | wp_step))
  refine codeAny_mono (code_set_led1 (.ref l) (E := E) (Q₁ := fun obj s1 => obj = .ref s.heap.objs.size ∧ s1 = { s with heap := s.heap.push (born w) }) ⟨rfl, rfl⟩) fun r s1 hr => ?_
  cases r with
  | error e => exact hr
  | ok fl =>
    cases fl with
    | next => exact hr.elim
    | brk => exact hr.elim
    | cont => exact hr.elim
    | ret obj =>
      obtain ⟨rfl, rfl⟩ := hr
      have hS : (s.heap.push (born w)).get? s.heap.objs.size = some (born w) := Heap.get?_push_size _ rfl
      have hT : Shared.TypeIs { s with heap := s.heap.push (born w) } (.ref s.heap.objs.size) "set" := ⟨_, hS, rfl⟩
      have hli := F.called_set.init.lookup
      have hbi := F.called_set.init.bind (.ref s.heap.objs.size)
      repeat (any_goals (first | assumption | wp_step))
      refine codeAny_mono (codeAny_call_builtin (R := wants (fun r s2 => r = .none ∧ ∃ h' tk c, s2 = { s with heap := h', toks := tk } ∧ SetR w h' s.heap.objs.size (fun j => decide (j ∈ ns)) c ∧ c ≤ ns.length ∧
          (∀ b o, s.heap.get? b = some o → h'.get? b = some o)) E) F.called_set.init.plain F.entry_set_init (check_set_init_1 hT ?_)) fun r2 s2 hr2 => ?_
      · obtain ⟨ol, hol, hcl, nl, hdl⟩ := hl
        obtain ⟨ocls, odict, odata, oslots⟩ := ol
        simp only at hcl hdl
        subst hcl
        subst hdl
        have hol' : (s.heap.push (born w)).get? l = some { cls := .type "list", dict := odict, data := .seq items nl, slots := oslots } := Heap.get?_push_of_some _ hol
        have hsls := F.sub_list_set
        have hslf := F.sub_list_frozenset
        have hne : (Value.type "list" == Value.type "dict") = false := by decide
        have hl1 : (s.heap.push (born w)).IsList l items := ⟨_, hol', rfl, nl, rfl⟩
        unfold Builtin.«set.__init__» noKeywords Builtin.Frozenset.updateFrom
        generalize hPI : pyIter = PI
        wp_walk
        subst hPI
        refine wpAny_pyIter_list hl1 ?_
        refine wpAny_bind (wpAny_runValue ?_)
        have hlS : l < s.heap.objs.size := Heap.lt_size hol
        have hh3 : A.in1.in1.in1.handled = none := by simp [hh]
        have sz1 : (s.heap.push (born w)).objs.size = s.heap.objs.size + 1 := Heap.size_push ..
        have apart : l ≠ (s.heap.push (born w)).objs.size := by
          rw [sz1]
          exact Nat.ne_of_lt (Nat.lt_succ_of_lt hlS)
        have notin : s.heap.objs.size ∉ [(s.heap.push (born w)).objs.size, l] := by
          rw [sz1]
          simp only [List.mem_cons, List.not_mem_nil, or_false, not_or]
          exact ⟨Nat.ne_of_lt (Nat.lt_succ_self _), Nat.ne_of_gt hlS⟩
        have hval : ∀ (i : Nat) (v : Value), items[i]? = some v → ∃ k t, ns[i]? = some k ∧ v = .int k t := fun i v hv => by
          have hi : i < ns.length := by rw [← many]; exact (Array.getElem?_eq_some_iff.mp hv).1
          obtain ⟨t, e⟩ := PyProof.Rows.IntsAre.int_at hit i v (by rw [Array.getElem?_toList]; exact hv)
          refine ⟨ns[i], t, List.getElem?_eq_getElem hi, ?_⟩
          rw [e, List.getD_eq_getElem?_getD, List.getElem?_eq_getElem hi] <;> rfl
        refine set_update_ints ((Walks.list hh3 _ l apart items).toS) s.heap.objs.size notin ns many hb hval (items.size - 0) 0 _ (by omega) (Nat.zero_le _) ⟨⟨_, Heap.get?_push_size _ rfl, rfl, rfl⟩, (hl1.push _)⟩ ?hS0 ?hR
        case hS0 => exact ⟨0, Nat.le_refl 0, setR_new_at (Heap.get?_push_of_some _ hS)⟩
        case hR =>
          intro s' c' hm hc' hS'
          obtain ⟨h', g2, d', tk', os'⟩ := s'
          obtain rfl : g2 = s.gens := hm.gens
          obtain rfl : d' = s.drawn := hm.drawn
          obtain rfl : os' = s.os := hm.os
          show wpAny _ _ _ _ _ _
          refine wpAny_pure ?_
          show wpAny _ _ (ret Value.none) _ _ _
          rw [many] at hc'
          refine wpAny_pure ⟨rfl, h', tk', c', rfl, hS', hc', fun b o e => ?_⟩
          have b0 : b < s.heap.objs.size := Heap.lt_size e
          refine hm.heap b o ?_ (Heap.get?_push_of_some _ (Heap.get?_push_of_some _ e))
          rw [sz1]
          simp only [List.mem_cons, List.mem_singleton, List.not_mem_nil, or_false, not_or]
          exact ⟨Nat.ne_of_lt b0, Nat.ne_of_lt (Nat.lt_succ_of_lt b0)⟩
      · cases r2 with
        | error e => exact hr2
        | ok fl2 =>
          cases fl2 with
          | next => exact hr2.elim
          | brk => exact hr2.elim
          | cont => exact hr2.elim
          | ret r =>
            obtain ⟨rfl, h', tk, c', rfl, hS', hc', hk'⟩ := hr2
            repeat (any_goals (first | assumption | wp_step))
            exact h _ _ _ hS' hc' hk'
/-- sorted of a set of numbers -/
theorem set_sorted {a : Addr} {S : Int → Bool} {n : Nat} {Q : Value → Shared → Prop} (R : SetR w s.heap a S n) (hh : A.handled = none) (few : n ≤ 16000000)
    (hQ : ∀ s' p (out : Array Value) (c : Nat) (ns : List Int), (∀ b o, s.heap.get? b = some o → s'.heap.get? b = some o) → s'.gens = s.gens → s'.os = s.os → s.heap.objs.size ≤ p →
      s'.heap.get? p = some (seqObj "list" out c) → IntsAre out.toList ns → ns.Pairwise (· < ·) → (∀ k, k ∈ ns ↔ S k = true) → ns.length = n → Q (.ref p) s') :
    wpAny (model P w) A (call (.builtin "sorted") [.ref a]) Q E s := by
  obtain ⟨o, es, ep, t, ho, hex, hd, g, nd, hm, hb, hf, hn, hr, hl⟩ := R
  refine Calls.call_function_entry kind_sorted plain_sorted entry_sorted (args_sorted1 _) ?_
  unfold Builtin.«sorted»
  refine wpAny_bind (m := checkCount "sorted" 1 1 _) (wpAny_pure (wpAny_bind (collect_set (A := A.in1) hh ⟨o, ho, hex.1, hd⟩ hf hb hr hl fun s1 vs k1 hz g1 o1 pm => ?_)))
  have len : vs.length = n := by
    rw [pm.length_eq, List.length_map, Array.length_toList]
    exact hn
  have hI : IntsAre vs (vs.map Builtin.Re.reRawOf) := ints_of vs fun v hv => by
    obtain ⟨e, he, q⟩ := List.mem_map.mp (pm.mem_iff.mp hv)
    obtain ⟨k, tk, z, _⟩ := g e he
    exact ⟨k, tk, q.symm.trans z⟩
  have keys : (vs.map Builtin.Re.reRawOf).Perm (es.toList.map keyOf) := by
    have q := pm.map Builtin.Re.reRawOf
    rw [List.map_map] at q
    exact q
  have small : vs.length ≤ sizeLine := by
    rw [len, sizeLine_eq]
    omega
  refine wpAny_bind (wpAny_newList ?_ small)
  have here : (s1.heap.push (seqObj "list" vs.toArray 0)).get? s1.heap.objs.size = some (seqObj "list" vs.toArray 0) := Heap.get?_push_size _ rfl
  refine wpAny_bind (wpAny_holding (wpAny_call_entry slot_list_sort ⟨_, here, rfl⟩ entry_list_sort (list_sort_treeAny here hI small fun out ns' a1 a2 a3 => ⟨_, rfl, ?_⟩) (args_list_sort _)))
  obtain ⟨c, hc⟩ := sortedHeap_at (vs := vs) (out := out) here
  have pn := a2.trans keys
  refine wpAny_pure ⟨_, rfl, hQ _ s1.heap.objs.size out c ns' (fun b u e => ?_) g1 o1 hz hc a1 (lt_of_le_nodup ns' a3 (pn.nodup_iff.mpr nd)) (fun k => (pn.mem_iff).trans (by rw [← hm k])) ?_⟩
  · have old := k1 b u e
    have below := Heap.lt_size old
    show (sortedHeap (s1.heap.push (seqObj "list" vs.toArray 0)) s1.heap.objs.size vs out).get? b = some u
    rw [sortedHeap_old (Nat.ne_of_lt below) (by rw [size_push']; exact Nat.lt_succ_of_lt below)]
    exact Heap.get?_push_of_some _ old
  · rw [pn.length_eq, List.length_map, Array.length_toList]
    exact hn
end
section
variable {X : Cx}
/-- set(xs), xs a list of numbers -/
def rSetL (K : PySem.W.Frag) (w : World) : List V → Hp → VK → Prop := fun vs H Q => ∃ (a : Addr) (ns : List Int), vs = [V.ref a] ∧ SqL K H a (ns.map V.int) ∧ ns.length ≤ 4000 ∧ ∀ (p : Addr) (c : Nat), H p = none → c ≤ ns.length → Q (.ref p) (upd H p (SetO w p (fun j => decide (j ∈ ns)) c))
theorem cr_setL (hc : X.calm = true) : CallR X (.type "set") (rSetL X.K X.w) := by
  intro pins s σ H vs us Q I r h
  obtain ⟨a, ns, rfl, hS, hl, q⟩ := h
  rw [Vals.ref1 r]
  obtain ⟨its, rv, ⟨o, n, e, c1, c2, c3⟩, _⟩ := I.list hS
  refine set_of_list ns (I.ok.hd hc) (items := its.toArray) ⟨o, e, c1, n, by rw [c3]⟩ (ints_of_vals rv) (by unfold scanBound; omega) fun h' tk c R hcn k => ?_
  have hn : H s.heap.objs.size = none := I.hok.fresh (Nat.le_refl _)
  exact ⟨.ref s.heap.objs.size, _, I.laid (t' := tk) k (Nat.le_refl _) (setO_new R), rfl, q _ c hn hcn⟩
/-- sorted(such a set) -/
def rSortedAll (w : World) : List V → Hp → VK → Prop := fun vs H Q => ∃ (a : Addr) (S : Int → Bool) (n : Nat), vs = [V.ref a] ∧ H a = some (SetO w a S n) ∧ n ≤ 16000000 ∧
  ∀ (ns : List Int) (p : Addr), ns.Pairwise (· < ·) → (∀ k : Int, k ∈ ns ↔ S k = true) → ns.length = n → H p = none → Q (.ref p) (upd H p (.lst (ns.map V.int)))
theorem cr_sortedAll (hc : X.calm = true) : CallR X (.builtin "sorted") (rSortedAll X.w) := by
  intro pins s σ H vs us Q I r h
  obtain ⟨a, S, n, rfl, ha, few, q⟩ := h
  rw [Vals.ref1 r]
  refine set_sorted (setO_get I ha) (I.ok.hd hc) few fun s' p out c ns k g o hp hg hi hs hm hl => ?_
  have small : (ns.map V.int).length ≤ sizeLine := by
    rw [List.length_map, hl, sizeLine_eq]
    omega
  have hn : H p = none := I.hok.fresh hp
  have J : Inv X pins σ (upd H p (.lst (ns.map V.int))) s' := I.call' (ch := []) o (Un.laid k hp hn) (I.hok.laid k hp ⟨small, out.toList, c, vals_of_ints hi, hg⟩) (by rw [g]; exact I.bare) (fun _ z => nomatch z)
  exact ⟨.ref p, _, J, rfl, q ns p hs hm hl hn⟩
end
end SetL
end L2
/-! Lines of spans: what a law lays of its paints, and what is found in it. -/
namespace Ln
open PySem L2
/-! ### paints, by a first day, the first day behind, what they put, and how that is shown -/
structure Pt where
  lo : Int
  e : Int
  v : V
  r : Str
def nonR : Str := "None"
def cov (p : Pt) (d : Int) : Bool := decide (p.lo ≤ d) && decide (d < p.e)
theorem cov_true {p : Pt} {d : Int} : cov p d = true ↔ p.lo ≤ d ∧ d < p.e := by
  unfold cov
  rw [Bool.and_eq_true, decide_eq_true_eq, decide_eq_true_eq]
theorem cov_false {p : Pt} {d : Int} : cov p d = false ↔ ¬ (p.lo ≤ d ∧ d < p.e) := by
  rw [← cov_true, Bool.not_eq_true]
def lastAt (ps : List Pt) (d : Int) : Option Pt := ps.reverse.find? fun p => cov p d
def atV (ps : List Pt) (d : Int) : V := match lastAt ps d with
  | some p => p.v
  | none => .non
def atR (ps : List Pt) (d : Int) : Str := match lastAt ps d with
  | some p => p.r
  | none => nonR
/-- what is shown on a day of pieces none of which meets another one, in whatever order -/
def textAt (qs : List Pt) (d : Int) : Str := match qs.find? fun p => cov p d with
  | some p => p.r
  | none => nonR
theorem textAt_nil (d : Int) : textAt [] d = nonR := rfl
theorem textAt_cons {q : Pt} {qs : List Pt} {d : Int} : textAt (q :: qs) d = if cov q d = true then q.r else textAt qs d := by
  unfold textAt
  rw [List.find?_cons]
  cases h : cov q d
  · rfl
  · rfl
theorem textAt_none {qs : List Pt} {d : Int} (h : ∀ q ∈ qs, cov q d = false) : textAt qs d = nonR := by
  have e : (qs.find? fun p => cov p d) = none := by
    rw [List.find?_eq_none]
    intro q hq
    rw [h q hq]
    decide
  unfold textAt
  rw [e]
/-! ### the walk from day to day; the pieces so far stand the last one first -/
def layStep (ps acc : List Pt) (lo hi : Int) : List Pt :=
  if (acc.head?.any fun q => decide (q.e = lo) && decide (q.r = atR ps lo)) = true then
    (if atV ps lo = .non then acc.tail else ⟨(acc.head?.map (·.lo)).getD lo, hi, atV ps lo, atR ps lo⟩ :: acc.tail)
  else (if atV ps lo = .non then acc else ⟨lo, hi, atV ps lo, atR ps lo⟩ :: acc)
def lay (ps : List Pt) : List Int → List Pt → List Pt
  | a :: b :: r, acc => lay ps (b :: r) (layStep ps acc a b)
  | _, acc => acc
/-- pieces, the last one first: each ends where the next one begins, or ahead of it -/
def Down : List Pt → Prop
  | [] => True
  | q :: r => q.lo < q.e ∧ (∀ x ∈ r, x.e ≤ q.lo) ∧ Down r
structure Laid (ps acc : List Pt) (cur : Int) : Prop where
  down : Down acc
  ends : ∀ q ∈ acc, q.e ≤ cur
  begs : ∀ q ∈ acc, ∃ p ∈ ps, q.lo = p.lo ∨ q.lo = p.e
  text : ∀ d, d < cur → textAt acc d = atR ps d
  from_ : ∀ q ∈ acc, q.v ≠ .non ∧ ∃ p ∈ ps, q.v = p.v ∧ q.r = p.r
theorem Down.tail {q : Pt} {r : List Pt} (h : Down (q :: r)) : Down r := h.2.2
/-- between two days that follow nothing begins or ends -/
theorem atR_const {ps : List Pt} {a b d : Int} (h : ∀ p ∈ ps, (p.lo ≤ a ∨ b ≤ p.lo) ∧ (p.e ≤ a ∨ b ≤ p.e)) (h1 : a ≤ d) (h2 : d < b) : lastAt ps d = lastAt ps a := by
  unfold lastAt
  have key : ∀ l : List Pt, (∀ p ∈ l, p ∈ ps) → (l.find? fun p => cov p d) = l.find? fun p => cov p a := by
    intro l
    induction l with
    | nil => intro _; rfl
    | cons p r ih =>
      intro hl
      obtain ⟨c1, c2⟩ := h p (hl p (List.mem_cons_self ..))
      have e : cov p d = cov p a := by
        cases ha : cov p a with
        | true =>
          have := cov_true.mp ha
          exact cov_true.mpr (by omega)
        | false =>
          have := cov_false.mp ha
          exact cov_false.mpr (by omega)
      rw [List.find?_cons, List.find?_cons, e, ih fun x hx => hl x (List.mem_cons_of_mem _ hx)]
  exact key ps.reverse fun p hp => List.mem_reverse.mp hp
theorem atR_of {ps : List Pt} {a d : Int} (h : lastAt ps d = lastAt ps a) : atR ps d = atR ps a := by unfold atR; rw [h]
theorem lastAt_mem {ps : List Pt} {d : Int} {p : Pt} (h : lastAt ps d = some p) : p ∈ ps ∧ cov p d = true := by
  unfold lastAt at h
  have e := List.find?_some h
  exact ⟨List.mem_reverse.mp (List.mem_of_find?_eq_some h), e⟩
/-- nothing shown: None -/
def Plain (ps : List Pt) : Prop := ∀ p ∈ ps, p.v = .non → p.r = nonR
theorem atR_non {ps : List Pt} {d : Int} (hp : Plain ps) (h : atV ps d = .non) : atR ps d = nonR := by
  unfold atV at h
  unfold atR
  cases e : lastAt ps d with
  | none => rfl
  | some p =>
    rw [e] at h
    exact hp p (lastAt_mem e).1 h
theorem atV_some {ps : List Pt} {d : Int} (h : atV ps d ≠ .non) : ∃ p ∈ ps, atV ps d = p.v ∧ atR ps d = p.r := by
  unfold atV at h ⊢
  unfold atR
  cases e : lastAt ps d with
  | none =>
    rw [e] at h
    exact absurd rfl h
  | some p => exact ⟨p, (lastAt_mem e).1, rfl, rfl⟩
theorem ended_text {qs : List Pt} {d cur : Int} (h : ∀ q ∈ qs, q.e ≤ cur) (hd : cur ≤ d) : textAt qs d = nonR :=
  textAt_none fun q hq => cov_false.mpr fun c => by have := h q hq; omega
theorem layStep_laid {ps acc : List Pt} {a b : Int} (hp : Plain ps) (hs : ∀ p ∈ ps, (p.lo ≤ a ∨ b ≤ p.lo) ∧ (p.e ≤ a ∨ b ≤ p.e)) (hab : a < b) (hbeg : ∃ p ∈ ps, a = p.lo ∨ a = p.e) (L : Laid ps acc a) : Laid ps (layStep ps acc a b) b := by
  have now : ∀ d, a ≤ d → d < b → atR ps d = atR ps a := fun d h1 h2 => atR_of (atR_const hs h1 h2)
  have plainEnds : ∀ q ∈ acc, q.e ≤ b := fun q hq => by have := L.ends q hq; omega
  -- a piece of its own
  have fresh : Laid ps (if atV ps a = .non then acc else ⟨a, b, atV ps a, atR ps a⟩ :: acc) b := by
    by_cases hv : atV ps a = .non
    · rw [if_pos hv]
      refine ⟨L.down, plainEnds, L.begs, fun d hd => ?_, L.from_⟩
      by_cases h : d < a
      · exact L.text d h
      · rw [ended_text L.ends (by omega), now d (by omega) hd, atR_non hp hv]
    · rw [if_neg hv]
      refine ⟨⟨hab, L.ends, L.down⟩, ?_, ?_, fun d hd => ?_, ?_⟩
      · intro q hq
        rcases List.mem_cons.mp hq with rfl | hq
        · exact Int.le_refl _
        · exact plainEnds q hq
      · intro q hq
        rcases List.mem_cons.mp hq with rfl | hq
        · exact hbeg
        · exact L.begs q hq
      · rw [textAt_cons]
        by_cases h : d < a
        · rw [if_neg (by rw [Bool.not_eq_true]; exact cov_false.mpr fun c => by have := c.1; dsimp only at this; omega)]
          exact L.text d h
        · rw [if_pos (cov_true.mpr ⟨by dsimp only; omega, hd⟩), now d (by omega) hd]
      · intro q hq
        rcases List.mem_cons.mp hq with rfl | hq
        · obtain ⟨p, h1, h2, h3⟩ := atV_some hv
          exact ⟨hv, p, h1, h2, h3⟩
        · exact L.from_ q hq
  unfold layStep
  cases acc with
  | nil => exact fresh
  | cons q rest =>
    by_cases hj : (((q :: rest).head?.any fun q => decide (q.e = a) && decide (q.r = atR ps a)) = true)
    · rw [if_pos hj]
      have hj' : (decide (q.e = a) && decide (q.r = atR ps a)) = true := hj
      rw [Bool.and_eq_true, decide_eq_true_eq, decide_eq_true_eq] at hj'
      obtain ⟨he, hr⟩ := hj'
      obtain ⟨d1, d2, d3⟩ := L.down
      have restEnds : ∀ x ∈ rest, x.e ≤ a := fun x hx => L.ends x (List.mem_cons_of_mem _ hx)
      have old : ∀ d, d < a → atR ps d = if q.lo ≤ d then q.r else textAt rest d := fun d hd => by
        rw [← L.text d hd, textAt_cons]
        by_cases c : q.lo ≤ d
        · rw [if_pos (cov_true.mpr ⟨c, by omega⟩), if_pos c]
        · rw [if_neg (by rw [Bool.not_eq_true]; exact cov_false.mpr fun z => c z.1), if_neg c]
      by_cases hv : atV ps a = .non
      · rw [if_pos hv]
        have rn := atR_non hp hv
        refine ⟨d3, fun x hx => by have := restEnds x hx; omega, fun x hx => L.begs x (List.mem_cons_of_mem _ hx), fun d hd => ?_, fun x hx => L.from_ x (List.mem_cons_of_mem _ hx)⟩
        by_cases h : d < a
        · have o := old d h
          by_cases c : q.lo ≤ d
          · rw [if_pos c, hr, rn] at o
            rw [o]
            exact ended_text d2 c
          · rw [if_neg c] at o
            exact o.symm
        · rw [now d (by omega) hd, rn]
          exact ended_text restEnds (by omega)
      · rw [if_neg hv]
        refine ⟨⟨?_, ?_, d3⟩, ?_, ?_, fun d hd => ?_, ?_⟩
        · show q.lo < b
          omega
        · exact d2
        · intro x hx
          rcases List.mem_cons.mp hx with rfl | hx
          · exact Int.le_refl _
          · have := restEnds x hx
            omega
        · intro x hx
          rcases List.mem_cons.mp hx with rfl | hx
          · exact L.begs q (List.mem_cons_self ..)
          · exact L.begs x (List.mem_cons_of_mem _ hx)
        · show textAt (⟨q.lo, b, atV ps a, atR ps a⟩ :: rest) d = _
          rw [textAt_cons]
          by_cases c : q.lo ≤ d
          · rw [if_pos (cov_true (p := ⟨q.lo, b, atV ps a, atR ps a⟩).mpr ⟨c, hd⟩)]
            by_cases h : d < a
            · rw [old d h, if_pos c, hr]
            · exact (now d (by omega) hd).symm
          · rw [if_neg (by rw [Bool.not_eq_true]; exact cov_false.mpr fun z => c z.1), old d (by omega), if_neg c]
        · intro x hx
          rcases List.mem_cons.mp hx with rfl | hx
          · obtain ⟨p, h1, h2, h3⟩ := atV_some hv
            exact ⟨hv, p, h1, h2, h3⟩
          · exact L.from_ x (List.mem_cons_of_mem _ hx)
    · rw [if_neg hj]
      exact fresh
/-- all days of a rising list -/
theorem lay_laid {ps : List Pt} (hp : Plain ps) : ∀ (ds : List Int) (acc : List Pt) (a : Int), (a :: ds).Pairwise (· < ·) → (∀ p ∈ ps, (p.lo ≤ a ∨ p.lo ∈ ds) ∧ (p.e ≤ a ∨ p.e ∈ ds)) → (∀ x ∈ a :: ds, ∃ p ∈ ps, x = p.lo ∨ x = p.e) → Laid ps acc a →
    Laid ps (lay ps (a :: ds) acc) ((a :: ds).getLast (by simp))
  | [], acc, a, _, _, _, L => L
  | b :: r, acc, a, hs, hm, hb, L => by
    have s1 := List.pairwise_cons.mp hs
    have s2 := List.pairwise_cons.mp s1.2
    have hab : a < b := s1.1 b (List.mem_cons_self ..)
    have between : ∀ x, (x ≤ a ∨ x ∈ b :: r) → x ≤ a ∨ b ≤ x := fun x hx => by
      rcases hx with h | h
      · exact .inl h
      · rcases List.mem_cons.mp h with rfl | h
        · exact .inr (Int.le_refl _)
        · have := s2.1 x h
          exact .inr (by omega)
    have L2 := layStep_laid hp (fun p h => ⟨between _ (hm p h).1, between _ (hm p h).2⟩) hab (hb a (List.mem_cons_self ..)) L
    have onward : ∀ x, (x ≤ a ∨ x ∈ b :: r) → x ≤ b ∨ x ∈ r := fun x hx => by
      rcases hx with h | h
      · exact .inl (by omega)
      · rcases List.mem_cons.mp h with rfl | h
        · exact .inl (Int.le_refl _)
        · exact .inr h
    have R := lay_laid hp r (layStep ps acc a b) b s1.2 (fun p h => ⟨onward _ (hm p h).1, onward _ (hm p h).2⟩) (fun x hx => hb x (List.mem_cons_of_mem _ hx)) L2
    rw [List.getLast_cons (by simp)]
    exact R
theorem last_most : ∀ (r : List Int) (a : Int), (a :: r).Pairwise (· < ·) → ∀ x ∈ a :: r, x ≤ (a :: r).getLast (by simp)
  | [], a, _, x, hx => by
    rw [List.mem_singleton.mp hx]
    exact Int.le_refl _
  | b :: r, a, hs, x, hx => by
    obtain ⟨h1, h2⟩ := List.pairwise_cons.mp hs
    rw [List.getLast_cons (by simp)]
    rcases List.mem_cons.mp hx with rfl | h
    · have g1 := h1 b (List.mem_cons_self ..)
      have g2 := last_most r b h2 b (List.mem_cons_self ..)
      omega
    · exact last_most r b h2 x h
/-- the whole: on each day what the paints put last -/
theorem lay_all {ps : List Pt} {ds : List Int} (hp : Plain ps) (hlt : ∀ p ∈ ps, p.lo < p.e) (hs : ds.Pairwise (· < ·)) (hm : ∀ x, x ∈ ds ↔ ∃ p ∈ ps, x = p.lo ∨ x = p.e) :
    Down (lay ps ds []) ∧ (∀ d, textAt (lay ps ds []) d = atR ps d) ∧ ∀ q ∈ lay ps ds [], (∃ p ∈ ps, q.lo = p.lo ∨ q.lo = p.e) ∧ (∃ p ∈ ps, q.e ≤ p.e) ∧ q.v ≠ .non ∧ ∃ p ∈ ps, q.v = p.v ∧ q.r = p.r := by
  cases ds with
  | nil =>
    have none_ : ps = [] := by
      cases ps with
      | nil => rfl
      | cons p r =>
        have := (hm p.lo).mpr ⟨p, List.mem_cons_self .., .inl rfl⟩
        cases this
    subst none_
    refine ⟨trivial, fun d => rfl, fun q hq => (nomatch hq)⟩
  | cons a r =>
    have s1 := List.pairwise_cons.mp hs
    have least : ∀ x, x ∈ a :: r → a ≤ x := fun x hx => by
      rcases List.mem_cons.mp hx with rfl | h
      · exact Int.le_refl _
      · have := s1.1 x h
        omega
    have L0 : Laid ps [] a := ⟨trivial, fun q hq => (nomatch hq), fun q hq => (nomatch hq), fun d hd => by
      have e : lastAt ps d = none := by
        unfold lastAt
        rw [List.find?_eq_none]
        intro p hp'
        have := least p.lo ((hm p.lo).mpr ⟨p, List.mem_reverse.mp hp', .inl rfl⟩)
        rw [Bool.not_eq_true]
        exact cov_false.mpr fun c => by omega
      rw [textAt_nil]
      unfold atR
      rw [e], fun q hq => (nomatch hq)⟩
    have split : ∀ x, x ∈ a :: r → x ≤ a ∨ x ∈ r := fun x hx => by
      rcases List.mem_cons.mp hx with rfl | h
      · exact .inl (Int.le_refl _)
      · exact .inr h
    have L := lay_laid hp r [] a hs (fun p h => ⟨split _ ((hm _).mpr ⟨p, h, .inl rfl⟩), split _ ((hm _).mpr ⟨p, h, .inr rfl⟩)⟩) (fun x hx => (hm x).mp hx) L0
    generalize hz : (a :: r).getLast (by simp) = z at L
    have zin : z ∈ a :: r := hz ▸ List.getLast_mem _
    have most : ∀ x ∈ a :: r, x ≤ z := fun x hx => hz ▸ last_most r a hs x hx
    refine ⟨L.down, fun d => ?_, fun q hq => ⟨L.begs q hq, ?_, L.from_ q hq⟩⟩
    · by_cases h : d < z
      · exact L.text d h
      · rw [ended_text L.ends (by omega)]
        have e : lastAt ps d = none := by
          unfold lastAt
          rw [List.find?_eq_none]
          intro p hp'
          have := most p.e ((hm p.e).mpr ⟨p, List.mem_reverse.mp hp', .inr rfl⟩)
          rw [Bool.not_eq_true]
          exact cov_false.mpr fun c => by omega
        unfold atR
        rw [e]
    · obtain ⟨p, h1, h2⟩ := (hm z).mp zin
      have hq2 := L.ends q hq
      rcases h2 with h2 | h2
      · exact ⟨p, h1, by have := hlt p h1; omega⟩
      · exact ⟨p, h1, by omega⟩
/-! ### the pieces in their order, and one found -/
def Up (qs : List Pt) : Prop := Down qs.reverse
theorem down_pair : ∀ {qs : List Pt}, Down qs → qs.Pairwise fun x y => y.e ≤ x.lo
  | [], _ => .nil
  | _ :: _, h => List.pairwise_cons.mpr ⟨fun y hy => h.2.1 y hy, down_pair h.2.2⟩
theorem down_each : ∀ {qs : List Pt}, Down qs → ∀ q ∈ qs, q.lo < q.e
  | _ :: r, h, q, hq => by
    rcases List.mem_cons.mp hq with rfl | hq
    · exact h.1
    · exact down_each h.2.2 q hq
theorem up_pair {qs : List Pt} (h : Up qs) : qs.Pairwise fun x y => x.e ≤ y.lo := by
  have := down_pair h
  rw [List.pairwise_reverse] at this
  exact this
theorem up_each {qs : List Pt} (h : Up qs) : ∀ q ∈ qs, q.lo < q.e := fun q hq => down_each h q (List.mem_reverse.mpr hq)
theorem up_at {qs : List Pt} (h : Up qs) {i j : Nat} {x y : Pt} (hi : qs[i]? = some x) (hj : qs[j]? = some y) (hij : i < j) : x.e ≤ y.lo := by
  obtain ⟨li, rfl⟩ := List.getElem?_eq_some_iff.mp hi
  obtain ⟨lj, rfl⟩ := List.getElem?_eq_some_iff.mp hj
  exact List.pairwise_iff_getElem.mp (up_pair h) i j li lj hij
/-- the text on a day, of pieces in either order -/
theorem text_of {qs : List Pt} (h : Up qs) {d : Int} {q : Pt} (hq : q ∈ qs) (hc : cov q d = true) : textAt qs.reverse d = q.r := by
  have key : ∀ l : List Pt, Down l → q ∈ l → textAt l d = q.r := by
    intro l
    induction l with
    | nil => intro _ z; cases z
    | cons x r ih =>
      intro hd z
      rw [textAt_cons]
      rcases List.mem_cons.mp z with rfl | z
      · rw [if_pos hc]
      · have h1 := hd.2.1 q z
        have h2 := cov_true.mp hc
        rw [if_neg (by rw [Bool.not_eq_true]; exact cov_false.mpr fun c => by omega)]
        exact ih hd.2.2 z
  exact key _ h (List.mem_reverse.mpr hq)
theorem text_none {qs : List Pt} {d : Int} (h : ∀ q ∈ qs, cov q d = false) : textAt qs.reverse d = nonR := textAt_none fun q hq => h q (List.mem_reverse.mp hq)
end Ln
/-! Texts of plain data (None, numbers, words of a to z, tuples of them) are unlike where the data are. -/
namespace Tx
open PySem PySem.Builtin.Str
def Let (y : Str) : Prop := ∀ c ∈ y.cps.toList, 97 ≤ c ∧ c ≤ 122
inductive At : PyData → Prop
  | non : At .none
  | int (i : Int) : At (.int i)
  | str (y : Str) (h : Let y) : At (.str y)
def Sd : Nat → PyData → Prop
  | 0, d => At d
  | n + 1, d => At d ∨ ∃ ds, d = .tuple ds ∧ ∀ x ∈ ds, Sd n x
abbrev tx (d : PyData) : List Nat := d.shown.cps.toList
theorem cps_app (a b : Str) : (a ++ b).cps.toList = a.cps.toList ++ b.cps.toList := by
  show (a.cps ++ b.cps).toList = _
  simp
theorem tx_int (i : Int) : tx (.int i) = (toString i).toList.map Char.toNat := by
  show (PyData.int i).shown.cps.toList = _
  rw [PyData.shown_int, Str.ofString_eq_toList]
theorem map_inj {α β : Type} {f : α → β} (hf : ∀ a b, f a = f b → a = b) : ∀ (xs ys : List α), xs.map f = ys.map f → xs = ys
  | [], [], _ => rfl
  | [], _ :: _, h => by cases h
  | _ :: _, [], h => by cases h
  | x :: xs, y :: ys, h => by
    rw [List.map_cons, List.map_cons] at h
    injection h with h1 h2
    rw [hf x y h1, map_inj hf xs ys h2]
theorem tx_int_inj {i j : Int} (h : tx (.int i) = tx (.int j)) : i = j := by
  rw [tx_int, tx_int] at h
  have h2 : (toString i).toList = (toString j).toList := by
    exact map_inj (fun a b e => Char.toNat_inj.mp e) _ _ h
  have h3 : toString i = toString j := String.toList_inj.mp h2
  exact Int.repr_inj.mp h3
theorem tx_int_sign (i : Int) : ∀ c ∈ tx (.int i), c = 45 ∨ (48 ≤ c ∧ c ≤ 57) := fun c hc => by
  by_cases h : c = 45 ∨ (48 ≤ c ∧ c ≤ 57)
  · exact h
  · have hc' : c ∈ (PyData.int i).shown.cps.toList := hc
    rw [PyData.shown_int] at hc'
    exact absurd hc' (PyProof.Rows.int_text_free' c ⟨fun z => h (.inl z), by omega⟩ i)
theorem tx_int_ne (i : Int) : tx (.int i) ≠ [] := by
  have ne : ∀ m : Nat, m.repr.toList ≠ [] := fun m h => by
    have : (Nat.toDigits 10 m).length = 0 := by
      have e : m.repr.toList = Nat.toDigits 10 m := by simp [Nat.repr]
      rw [← e, h]
      rfl
    have := Nat.length_toDigits_pos (b := 10) (n := m)
    omega
  rw [tx_int]
  intro h
  have h2 := List.map_eq_nil_iff.mp h
  cases i with
  | ofNat m => exact ne m h2
  | negSucc m =>
    have e : (toString (Int.negSucc m)).toList = '-' :: (m.succ.repr).toList := by
      show ("-" ++ m.succ.repr).toList = _
      simp
    rw [e] at h2
    cases h2
theorem rc_let {c : Nat} (h : 97 ≤ c ∧ c ≤ 122) : reprChar 39 c = [c] := by
  have : c = 97 ∨ c = 98 ∨ c = 99 ∨ c = 100 ∨ c = 101 ∨ c = 102 ∨ c = 103 ∨ c = 104 ∨ c = 105 ∨ c = 106 ∨ c = 107 ∨ c = 108 ∨ c = 109 ∨ c = 110 ∨ c = 111 ∨ c = 112 ∨ c = 113 ∨ c = 114 ∨ c = 115 ∨ c = 116 ∨ c = 117 ∨ c = 118 ∨ c = 119 ∨ c = 120 ∨ c = 121 ∨ c = 122 := by omega
  rcases this with rfl | rfl | rfl | rfl | rfl | rfl | rfl | rfl | rfl | rfl | rfl | rfl | rfl | rfl | rfl | rfl | rfl | rfl | rfl | rfl | rfl | rfl | rfl | rfl | rfl | rfl <;> decide +kernel
theorem fold_let : ∀ (l : List Nat) (acc : Array Nat), (∀ c ∈ l, 97 ≤ c ∧ c ≤ 122) → (l.foldl (fun out c => out ++ (reprChar 39 c).toArray) acc).toList = acc.toList ++ l
  | [], acc, _ => by simp
  | c :: r, acc, h => by
    rw [List.foldl_cons, fold_let r _ fun x hx => h x (List.mem_cons_of_mem _ hx), rc_let (h c (List.mem_cons_self ..))]
    simp
theorem tx_str {y : Str} (h : Let y) : tx (.str y) = 39 :: y.cps.toList ++ [39] := by
  have q : reprQuote y = 39 := by
    unfold reprQuote
    have : y.cps.contains 39 = false := by
      rw [Bool.eq_false_iff]
      intro z
      have := h 39 (Array.mem_toList_iff.mpr (Array.contains_iff_mem.mp z))
      omega
    rw [this]
    rfl
  show (reprText y).cps.toList = _
  unfold reprText
  rw [q]
  show (Array.push _ _).toList = _
  rw [Array.toList_push, ← Array.foldl_toList, fold_let _ _ h]
  rfl
/-! ### tuples -/
def tl : List PyData → List Nat
  | [] => [41]
  | x :: r => 44 :: 32 :: (tx x ++ tl r)
theorem join_tl : ∀ (x : PyData) (r : List PyData), (Str.join ", " (PyData.shownAll (x :: r))).cps.toList ++ [41] = tx x ++ tl r
  | x, [] => rfl
  | x, y :: r => by
    have ih := join_tl y r
    show ((x.shown ++ ((", " : String) : Str) ++ Str.join ", " (PyData.shownAll (y :: r))).cps.toList) ++ [41] = _
    rw [cps_app, cps_app, List.append_assoc, ih, tl]
    have e : ((", " : String) : Str).cps.toList = [44, 32] := by decide +kernel
    rw [e]
    simp
theorem tx_tup : ∀ ds : List PyData, tx (.tuple ds) = match ds with | [] => [40, 41] | [x] => 40 :: (tx x ++ [44, 41]) | x :: y :: r => 40 :: (tx x ++ tl (y :: r))
  | [] => by decide +kernel
  | [x] => by
    show (((("(" : String) : Str) ++ x.shown ++ ((",)" : String) : Str)).cps.toList) = _
    rw [cps_app, cps_app]
    have e1 : (("(" : String) : Str).cps.toList = [40] := by decide +kernel
    have e2 : ((",)" : String) : Str).cps.toList = [44, 41] := by decide +kernel
    rw [e1, e2]
    simp
  | x :: y :: r => by
    have e0 : ((PyData.shownAll (x :: y :: r)).length == 1) = false := by
      simp [PyData.shownAll]
    show (tupleText (PyData.shownAll (x :: y :: r))).cps.toList = _
    unfold tupleText
    rw [e0]
    show (((("(" : String) : Str) ++ Str.join ", " (PyData.shownAll (x :: y :: r)) ++ ((")" : String) : Str)).cps.toList) = _
    rw [cps_app, cps_app, List.append_assoc]
    have e1 : (("(" : String) : Str).cps.toList = [40] := by decide +kernel
    have e2 : ((")" : String) : Str).cps.toList = [41] := by decide +kernel
    rw [e1, e2, join_tl]
    rfl
/-! ### one text ahead of another: the data ahead are alike -/
def Stop (s : List Nat) : Prop := s = [] ∨ ∃ c r, s = c :: r ∧ (c = 41 ∨ c = 44)
theorem stop_ne {s : List Nat} (h : Stop s) {c : Nat} {r : List Nat} (e : s = c :: r) : c = 41 ∨ c = 44 := by
  rcases h with h | ⟨c', r', h, hc⟩
  · rw [h] at e
    cases e
  · rw [h] at e
    cases e
    exact hc
/-- two rows of signs of a sort, each with one of no such sort behind -/
theorem cut_eq {p : Nat → Prop} : ∀ {a b s t : List Nat}, (∀ c ∈ a, p c) → (∀ c ∈ b, p c) → (∀ c r, s = c :: r → ¬ p c) → (∀ c r, t = c :: r → ¬ p c) → a ++ s = b ++ t → a = b ∧ s = t
  | [], [], _, _, _, _, _, _, h => ⟨rfl, h⟩
  | [], y :: b, s, t, _, hb, hs, _, h => absurd (hb y (List.mem_cons_self ..)) (hs y (b ++ t) h)
  | x :: a, [], s, t, ha, _, _, ht, h => absurd (ha x (List.mem_cons_self ..)) (ht x (a ++ s) h.symm)
  | x :: a, y :: b, s, t, ha, hb, hs, ht, h => by
    injection h with h1 h2
    obtain ⟨e1, e2⟩ := cut_eq (fun c hc => ha c (List.mem_cons_of_mem _ hc)) (fun c hc => hb c (List.mem_cons_of_mem _ hc)) hs ht h2
    rw [h1, e1]
    exact ⟨rfl, e2⟩
theorem tx_non : tx .none = [78, 111, 110, 101] := by decide +kernel
/-- with which sign a text begins -/
inductive Beg : PyData → Nat → Prop
  | non : Beg .none 78
  | int (i : Int) (c : Nat) (h : c = 45 ∨ (48 ≤ c ∧ c ≤ 57)) : Beg (.int i) c
  | str (y : Str) (h : Let y) : Beg (.str y) 39
  | tup (ds : List PyData) : Beg (.tuple ds) 40
theorem beg_tup (ds : List PyData) : ∃ r, tx (.tuple ds) = 40 :: r := by
  rw [tx_tup]
  match ds with
  | [] => exact ⟨_, rfl⟩
  | [x] => exact ⟨_, rfl⟩
  | x :: y :: r => exact ⟨_, rfl⟩
theorem beg_of : ∀ {n : Nat} {d : PyData}, Sd n d → ∃ c r, tx d = c :: r ∧ Beg d c := by
  have at_ : ∀ {d : PyData}, At d → ∃ c r, tx d = c :: r ∧ Beg d c := by
    intro d h
    cases h with
    | non => exact ⟨_, _, tx_non, .non⟩
    | int i =>
      cases e : tx (.int i) with
      | nil => exact absurd e (tx_int_ne i)
      | cons c r => exact ⟨c, r, rfl, .int i c (tx_int_sign i c (by rw [e]; exact List.mem_cons_self ..))⟩
    | str y h => exact ⟨_, _, tx_str h, .str y h⟩
  intro n d h
  cases n with
  | zero => exact at_ h
  | succ n =>
    rcases h with h | ⟨ds, rfl, _⟩
    · exact at_ h
    · obtain ⟨r, e⟩ := beg_tup ds
      exact ⟨40, r, e, .tup ds⟩
theorem stop_tl (r : List PyData) (s : List Nat) : Stop (tl r ++ s) := by
  cases r with
  | nil => exact .inr ⟨41, s, rfl, .inl rfl⟩
  | cons x r => exact .inr ⟨44, _, rfl, .inr rfl⟩
theorem sd_tup {n : Nat} {ds : List PyData} (h : Sd n (.tuple ds)) : ∃ k, n = k + 1 ∧ ∀ x ∈ ds, Sd k x := by
  cases n with
  | zero => cases h
  | succ k =>
    rcases h with h | ⟨es, e, h⟩
    · cases h
    · cases e
      exact ⟨k, rfl, h⟩
theorem tx_cut : ∀ (n m : Nat) (d e : PyData) (s t : List Nat), Sd n d → Sd m e → Stop s → Stop t → tx d ++ s = tx e ++ t → d = e ∧ s = t := by
  intro n
  induction n using Nat.strongRecOn with
  | _ n ih =>
    intro m d e s t hd he hs ht h
    obtain ⟨c, r, e1, b1⟩ := beg_of hd
    obtain ⟨c', r', e2, b2⟩ := beg_of he
    have hc : c = c' := by
      rw [e1, e2] at h
      injection h
    subst hc
    cases b1 with
    | non =>
      cases b2 with
      | non => exact ⟨rfl, List.append_cancel_left h⟩
      | int i _ hi => omega
    | int i _ hi =>
      cases b2 with
      | non => omega
      | int j _ hj =>
        have no : ∀ {u : List Nat}, Stop u → ∀ c r, u = c :: r → ¬ (c = 45 ∨ (48 ≤ c ∧ c ≤ 57)) := fun hu c r e => by
          have := stop_ne hu e
          omega
        obtain ⟨h1, h2⟩ := cut_eq (p := fun c => c = 45 ∨ (48 ≤ c ∧ c ≤ 57)) (tx_int_sign i) (tx_int_sign j) (no hs) (no ht) h
        rw [tx_int_inj h1]
        exact ⟨rfl, h2⟩
      | str z hz => omega
      | tup es => omega
    | str y hy =>
      cases b2 with
      | int j _ hj => omega
      | str z hz =>
        rw [tx_str hy, tx_str hz, List.cons_append, List.cons_append, List.cons_append, List.cons_append, List.append_assoc, List.append_assoc] at h
        injection h with _ h
        obtain ⟨h1, h2⟩ := cut_eq (p := fun c => 97 ≤ c ∧ c ≤ 122) hy hz (fun c r e => by cases e; omega) (fun c r e => by cases e; omega) h
        have e : y = z := by
          obtain ⟨a⟩ := y
          obtain ⟨b⟩ := z
          exact congrArg Str.mk (Array.toList_inj.mp h1)
        rw [e]
        refine ⟨rfl, ?_⟩
        injection h2
    | tup ds =>
      cases b2 with
      | int j _ hj => omega
      | tup es =>
        obtain ⟨k, rfl, hk⟩ := sd_tup hd
        obtain ⟨l, rfl, hl⟩ := sd_tup he
        have step : ∀ (x y : PyData) (u v : List Nat), Sd k x → Sd l y → Stop u → Stop v → tx x ++ u = tx y ++ v → x = y ∧ u = v := fun x y u v => ih k (by omega) l x y u v
        have all_ : ∀ (xs ys : List PyData), (∀ x ∈ xs, Sd k x) → (∀ x ∈ ys, Sd l x) → tl xs ++ s = tl ys ++ t → xs = ys ∧ s = t := by
          intro xs
          induction xs with
          | nil =>
            intro ys _ _ h
            cases ys with
            | nil =>
              injection h with _ h
              exact ⟨rfl, h⟩
            | cons y ys =>
              injection h with h1 _
              omega
          | cons x xs ih2 =>
            intro ys hx hy h
            cases ys with
            | nil =>
              injection h with h1 _
              omega
            | cons y ys =>
              rw [tl, tl] at h
              simp only [List.cons_append, List.append_assoc] at h
              injection h with _ h
              injection h with _ h
              obtain ⟨a, b⟩ := step x y _ _ (hx x (List.mem_cons_self ..)) (hy y (List.mem_cons_self ..)) (stop_tl xs s) (stop_tl ys t) h
              obtain ⟨a2, b2⟩ := ih2 ys (fun z hz => hx z (List.mem_cons_of_mem _ hz)) (fun z hz => hy z (List.mem_cons_of_mem _ hz)) b
              rw [a, a2]
              exact ⟨rfl, b2⟩
        have comma : ∀ u : List Nat, Stop (44 :: u) := fun u => .inr ⟨44, u, rfl, .inr rfl⟩
        have sx := fun x (hx : x ∈ ds) => hk x hx
        have sy := fun x (hx : x ∈ es) => hl x hx
        rw [tx_tup, tx_tup] at h
        match ds, es, h with
        | [], [], h =>
          injection h with _ h
          injection h with _ h
          exact ⟨rfl, h⟩
        | [], [y], h =>
          exfalso
          injection h with _ h
          obtain ⟨c, r, e, b⟩ := beg_of (hl y (List.mem_cons_self ..))
          rw [e] at h
          injection h with h _
          subst h
          cases b
          omega
        | [], y :: y2 :: ys, h =>
          exfalso
          injection h with _ h
          obtain ⟨c, r, e, b⟩ := beg_of (hl y (List.mem_cons_self ..))
          rw [e] at h
          injection h with h _
          subst h
          cases b
          omega
        | [x], [], h =>
          exfalso
          injection h with _ h
          obtain ⟨c, r, e, b⟩ := beg_of (hk x (List.mem_cons_self ..))
          rw [e] at h
          injection h with h _
          subst h
          cases b
          omega
        | x :: x2 :: xs, [], h =>
          exfalso
          injection h with _ h
          obtain ⟨c, r, e, b⟩ := beg_of (hk x (List.mem_cons_self ..))
          rw [e] at h
          injection h with h _
          subst h
          cases b
          omega
        | [x], [y], h =>
          simp only [List.cons_append, List.append_assoc] at h
          injection h with _ h
          obtain ⟨a, b⟩ := step x y _ _ (hk x (List.mem_cons_self ..)) (hl y (List.mem_cons_self ..)) (comma _) (comma _) h
          injection b with _ b
          injection b with _ b
          rw [a]
          exact ⟨rfl, b⟩
        | [x], y :: y2 :: ys, h =>
          exfalso
          simp only [List.cons_append, List.append_assoc] at h
          injection h with _ h
          obtain ⟨a, b⟩ := step x y _ _ (hk x (List.mem_cons_self ..)) (hl y (List.mem_cons_self ..)) (comma _) (stop_tl _ t) h
          rw [tl] at b
          injection b with _ b
          injection b with b _
          omega
        | x :: x2 :: xs, [y], h =>
          exfalso
          simp only [List.cons_append, List.append_assoc] at h
          injection h with _ h
          obtain ⟨a, b⟩ := step x y _ _ (hk x (List.mem_cons_self ..)) (hl y (List.mem_cons_self ..)) (stop_tl _ s) (comma _) h
          rw [tl] at b
          injection b with _ b
          injection b with b _
          omega
        | x :: x2 :: xs, y :: y2 :: ys, h =>
          simp only [List.cons_append, List.append_assoc] at h
          injection h with _ h
          obtain ⟨a, b⟩ := step x y _ _ (hk x (List.mem_cons_self ..)) (hl y (List.mem_cons_self ..)) (stop_tl _ s) (stop_tl _ t) h
          obtain ⟨a2, b2⟩ := all_ _ _ (fun z hz => hk z (List.mem_cons_of_mem _ hz)) (fun z hz => hl z (List.mem_cons_of_mem _ hz)) b
          rw [a, a2]
          exact ⟨rfl, b2⟩
theorem shown_inj {n m : Nat} {d e : PyData} (hd : Sd n d) (he : Sd m e) (h : d.shown = e.shown) : d = e := by
  refine (tx_cut n m d e [] [] hd he (.inl rfl) (.inl rfl) ?_).1
  show d.shown.cps.toList ++ [] = e.shown.cps.toList ++ []
  rw [h]
theorem let_ok {y : Str} (h : Let y) : PyData.strOk y = true := by
  show y.cps.all (· < 0x110000) = true
  rw [← Array.all_toList, List.all_eq_true]
  intro c hc
  have := h c hc
  exact decide_eq_true (by omega)
theorem sd_lay : ∀ {n : Nat} {d : PyData}, Sd n d → d.canLay0 = true ∧ d.depth ≤ n := by
  have at_ : ∀ {d : PyData}, At d → d.canLay0 = true ∧ d.depth = 0 := by
    intro d h
    cases h with
    | non => exact ⟨rfl, rfl⟩
    | int i => exact ⟨rfl, rfl⟩
    | str y h => exact ⟨by simpa [PyData.canLay0] using let_ok h, rfl⟩
  intro n
  induction n with
  | zero =>
    intro d h
    obtain ⟨a, b⟩ := at_ h
    exact ⟨a, by omega⟩
  | succ n ih =>
    intro d h
    rcases h with h | ⟨ds, rfl, h⟩
    · obtain ⟨a, b⟩ := at_ h
      exact ⟨a, by omega⟩
    · have key : ∀ xs : List PyData, (∀ x ∈ xs, Sd n x) → PyData.canLayAll0 xs = true ∧ PyData.depthAll xs ≤ n := by
        intro xs
        induction xs with
        | nil => intro _; exact ⟨rfl, Nat.zero_le _⟩
        | cons x xs ih2 =>
          intro hx
          obtain ⟨a1, a2⟩ := ih (hx x (List.mem_cons_self ..))
          obtain ⟨b1, b2⟩ := ih2 fun z hz => hx z (List.mem_cons_of_mem _ hz)
          refine ⟨by simp [PyData.canLayAll0, a1, b1], ?_⟩
          simp only [PyData.depthAll]
          omega
      obtain ⟨a, b⟩ := key ds h
      refine ⟨by simpa [PyData.canLay0] using a, ?_⟩
      simp only [PyData.depth]
      omega
theorem eqv_eq : ∀ {n m : Nat} {d e : PyData}, Sd n d → Sd m e → PyData.eqv d e = true → d = e := by
  intro n
  induction n using Nat.strongRecOn with
  | _ n ih =>
    intro m d e hd he h
    obtain ⟨_, _, _, b1⟩ := beg_of hd
    obtain ⟨_, _, _, b2⟩ := beg_of he
    cases b1 with
    | non =>
      cases b2 with
      | non => rfl
      | _ => simp [PyData.eqv] at h
    | int i =>
      cases b2 with
      | int j => simp [PyData.eqv] at h; rw [h]
      | _ => simp [PyData.eqv] at h
    | str y =>
      cases b2 with
      | str z => simp [PyData.eqv] at h; rw [h]
      | _ => simp [PyData.eqv] at h
    | tup ds =>
      cases b2 with
      | tup es =>
        obtain ⟨k, rfl, hk⟩ := sd_tup hd
        obtain ⟨l, rfl, hl⟩ := sd_tup he
        rw [PyData.eqv] at h
        have all_ : ∀ (xs ys : List PyData), (∀ x ∈ xs, Sd k x) → (∀ x ∈ ys, Sd l x) → PyData.eqvAll xs ys = true → xs = ys := by
          intro xs
          induction xs with
          | nil =>
            intro ys _ _ h
            cases ys with
            | nil => rfl
            | cons y ys => simp [PyData.eqvAll] at h
          | cons x xs ih2 =>
            intro ys hx hy h
            cases ys with
            | nil => simp [PyData.eqvAll] at h
            | cons y ys =>
              rw [PyData.eqvAll, Bool.and_eq_true] at h
              rw [ih k (by omega) (hx x (List.mem_cons_self ..)) (hy y (List.mem_cons_self ..)) h.1, ih2 ys (fun z hz => hx z (List.mem_cons_of_mem _ hz)) (fun z hz => hy z (List.mem_cons_of_mem _ hz)) h.2]
        rw [all_ ds es hk hl h]
      | _ => simp [PyData.eqv] at h
/-- == of plain data is that of their texts -/
theorem eqv_shown {n m : Nat} {d e : PyData} (hd : Sd n d) (he : Sd m e) : PyData.eqv d e = decide (d.shown = e.shown) := by
  by_cases h : d.shown = e.shown
  · rw [decide_eq_true h, shown_inj hd he h]
    exact SeqAt.eqv_refl _ (sd_lay he).1
  · rw [decide_eq_false h]
    cases hb : PyData.eqv d e with
    | false => rfl
    | true => exact absurd (congrArg PyData.shown (eqv_eq hd he hb)) h
end Tx
namespace Ln
open PySem L2
/-! ### lines as they are told: none alike to the one that begins where it ends; the last one first -/
def Sep : List Pt → Prop
  | q :: x :: r => (x.e = q.lo → x.r ≠ q.r) ∧ Sep (x :: r)
  | _ => True
theorem Sep.tail {q : Pt} {r : List Pt} (h : Sep (q :: r)) : Sep r := by
  cases r with
  | nil => trivial
  | cons x r => exact h.2
theorem Sep.cons {q : Pt} {r : List Pt} (h : Sep r) (hx : ∀ x s, r = x :: s → x.e = q.lo → x.r ≠ q.r) : Sep (q :: r) := by
  cases r with
  | nil => trivial
  | cons x r => exact ⟨hx x r rfl, h⟩
theorem Sep.head {q x : Pt} {r : List Pt} (h : Sep (q :: x :: r)) : x.e = q.lo → x.r ≠ q.r := h.1
structure Can (l : List Pt) : Prop where
  down : Down l
  sep : Sep l
  full : ∀ q ∈ l, q.r ≠ nonR
theorem Can.tail {q : Pt} {r : List Pt} (h : Can (q :: r)) : Can r := ⟨h.down.tail, h.sep.tail, fun x hx => h.full x (List.mem_cons_of_mem _ hx)⟩
abbrev key (p : Pt) : Int × Int × Str := (p.lo, p.e, p.r)
theorem down_ends : ∀ {q : Pt} {r : List Pt}, Down (q :: r) → ∀ x ∈ q :: r, x.e ≤ q.e := fun h x hx => by
  rcases List.mem_cons.mp hx with rfl | hx
  · exact Int.le_refl _
  · have h1 := h.1
    have := h.2.1 x hx
    omega
theorem text_head {q : Pt} {r : List Pt} {d : Int} (h1 : q.lo ≤ d) (h2 : d < q.e) : textAt (q :: r) d = q.r := by
  rw [textAt_cons, if_pos (cov_true.mpr ⟨h1, h2⟩)]
theorem text_skip {q : Pt} {r : List Pt} {d : Int} (h : ¬ (q.lo ≤ d ∧ d < q.e)) : textAt (q :: r) d = textAt r d := by
  rw [textAt_cons, if_neg (by rw [Bool.not_eq_true]; exact cov_false.mpr h)]
theorem text_ahead {q : Pt} {r : List Pt} (h : Can (q :: r)) : textAt r (q.lo - 1) ≠ q.r := by
  have full := h.full q (List.mem_cons_self ..)
  cases r with
  | nil => rw [textAt_nil]; exact full.symm
  | cons z s =>
    have d1 := h.down
    have z1 := d1.2.1 z (List.mem_cons_self ..)
    have z2 := d1.2.2
    by_cases c : z.lo ≤ q.lo - 1 ∧ q.lo - 1 < z.e
    · rw [text_head c.1 c.2]
      exact h.sep.head (by omega)
    · rw [text_skip c]
      rw [ended_text (cur := z.lo) z2.2.1 (by have := z2.1; omega)]
      exact full.symm
/-- two such lines that tell the same on each day are alike -/
theorem can_uniq : ∀ {a b : List Pt}, Can a → Can b → (∀ d, textAt a d = textAt b d) → a.map key = b.map key
  | [], [], _, _, _ => rfl
  | [], y :: s, _, hb, h => by
    have e := h y.lo
    rw [textAt_nil, text_head (Int.le_refl _) hb.down.1] at e
    exact absurd e.symm (hb.full y (List.mem_cons_self ..))
  | x :: r, [], ha, _, h => by
    have e := h x.lo
    rw [textAt_nil, text_head (Int.le_refl _) ha.down.1] at e
    exact absurd e (ha.full x (List.mem_cons_self ..))
  | x :: r, y :: s, ha, hb, h => by
    have xl := ha.down.1
    have yl := hb.down.1
    have ends : ∀ {p q : Pt} {u v : List Pt}, Can (p :: u) → Can (q :: v) → (∀ d, textAt (p :: u) d = textAt (q :: v) d) → ¬ p.e < q.e := fun {p q u v} hp hq h c => by
      have e := h (q.e - 1)
      have ql := hq.down.1
      rw [text_head (q := q) (by omega) (by omega), ended_text (cur := p.e) (down_ends hp.down) (by omega)] at e
      exact hq.full q (List.mem_cons_self ..) e.symm
    have ee : x.e = y.e := by
      have := ends ha hb h
      have := ends hb ha fun d => (h d).symm
      omega
    have er : x.r = y.r := by
      have e := h (x.e - 1)
      rwa [text_head (by omega) (by omega), text_head (by omega) (by omega)] at e
    have begs : ∀ {p q : Pt} {u v : List Pt}, Can (p :: u) → Can (q :: v) → p.e = q.e → p.r = q.r → (∀ d, textAt (p :: u) d = textAt (q :: v) d) → ¬ p.lo < q.lo := fun {p q u v} hp hq ee er h c => by
      have e := h (q.lo - 1)
      have ql := hq.down.1
      rw [text_head (q := p) (by omega) (by omega), text_skip (by omega), er] at e
      exact text_ahead hq e.symm
    have el : x.lo = y.lo := by
      have := begs ha hb ee er h
      have := begs hb ha ee.symm er.symm fun d => (h d).symm
      omega
    have rest := can_uniq ha.tail hb.tail fun d => by
      by_cases c : x.lo ≤ d
      · rw [ended_text (cur := x.lo) ha.down.2.1 c, ended_text (cur := y.lo) hb.down.2.1 (by omega)]
      · have e := h d
        rwa [text_skip (by omega), text_skip (by omega)] at e
    rw [List.map_cons, List.map_cons, rest]
    show (x.lo, x.e, x.r) :: _ = (y.lo, y.e, y.r) :: _
    rw [ee, er, el]
/-! ### what is laid is so -/
def Solid (ps : List Pt) : Prop := ∀ p ∈ ps, p.v ≠ .non → p.r ≠ nonR
theorem layStep_sep {ps acc : List Pt} {a b : Int} (h : Sep acc) : Sep (layStep ps acc a b) := by
  unfold layStep
  cases acc with
  | nil =>
    show Sep (if _ = true then _ else _)
    split
    · split <;> trivial
    · split <;> trivial
  | cons q rest =>
    by_cases hj : (((q :: rest).head?.any fun q => decide (q.e = a) && decide (q.r = atR ps a)) = true)
    · rw [if_pos hj]
      have hj' : (decide (q.e = a) && decide (q.r = atR ps a)) = true := hj
      rw [Bool.and_eq_true, decide_eq_true_eq, decide_eq_true_eq] at hj'
      obtain ⟨he, hr⟩ := hj'
      by_cases hv : atV ps a = .non
      · rw [if_pos hv]
        exact h.tail
      · rw [if_neg hv]
        refine Sep.cons h.tail fun x s hx hxe => ?_
        show x.r ≠ atR ps a
        rw [← hr]
        have hx' : rest = x :: s := hx
        rw [hx'] at h
        exact h.head hxe
    · rw [if_neg hj]
      have hj' : ¬ ((decide (q.e = a) && decide (q.r = atR ps a)) = true) := hj
      rw [Bool.and_eq_true, decide_eq_true_eq, decide_eq_true_eq] at hj'
      by_cases hv : atV ps a = .non
      · rw [if_pos hv]
        exact h
      · rw [if_neg hv]
        refine Sep.cons h fun x s hx hxe => ?_
        cases hx
        exact fun z => hj' ⟨hxe, z⟩
theorem lay_sep {ps : List Pt} : ∀ (ds : List Int) (acc : List Pt), Sep acc → Sep (lay ps ds acc)
  | [], _, h => h
  | [_], _, h => h
  | _ :: b :: r, acc, h => lay_sep (b :: r) _ (layStep_sep h)
theorem lay_can {ps : List Pt} {ds : List Int} (hp : Plain ps) (hso : Solid ps) (hlt : ∀ p ∈ ps, p.lo < p.e) (hs : ds.Pairwise (· < ·)) (hm : ∀ x, x ∈ ds ↔ ∃ p ∈ ps, x = p.lo ∨ x = p.e) : Can (lay ps ds []) := by
  obtain ⟨h1, h2, h3⟩ := lay_all hp hlt hs hm
  refine ⟨h1, lay_sep ds [] trivial, fun q hq => ?_⟩
  obtain ⟨_, _, hv, p, hp', e1, e2⟩ := h3 q hq
  rw [e2]
  exact hso p hp' (by rw [← e1]; exact hv)
end Ln
namespace Ln
open PySem L2
/-! ### pieces that rise; cut to a span; joined -/
def Rise (ps : List Pt) : Prop := (∀ p ∈ ps, p.lo < p.e) ∧ ps.Pairwise fun x y => x.e ≤ y.lo
theorem down_of : ∀ {l : List Pt}, (∀ q ∈ l, q.lo < q.e) → (l.Pairwise fun x y => y.e ≤ x.lo) → Down l
  | [], _, _ => trivial
  | q :: r, h, hp => ⟨h q (List.mem_cons_self ..), (List.pairwise_cons.mp hp).1, down_of (fun x hx => h x (List.mem_cons_of_mem _ hx)) (List.pairwise_cons.mp hp).2⟩
theorem rise_up {ps : List Pt} (h : Rise ps) : Up ps := by
  refine down_of (fun q hq => h.1 q (List.mem_reverse.mp hq)) ?_
  rw [List.pairwise_reverse]
  exact h.2
theorem up_rise {ps : List Pt} (h : Up ps) : Rise ps := ⟨up_each h, up_pair h⟩
def clipP (a b : Int) (p : Pt) : Option Pt := if max p.lo a < min p.e b then some ⟨max p.lo a, min p.e b, p.v, p.r⟩ else none
def clip (a b : Int) (qs : List Pt) : List Pt := qs.filterMap (clipP a b)
theorem clipP_some {a b : Int} {p x : Pt} (h : clipP a b p = some x) : x.lo = max p.lo a ∧ x.e = min p.e b ∧ x.v = p.v ∧ x.r = p.r ∧ x.lo < x.e := by
  unfold clipP at h
  split at h
  · next c =>
    cases h
    exact ⟨rfl, rfl, rfl, rfl, c⟩
  · cases h
theorem clip_mem {a b : Int} {qs : List Pt} {x : Pt} (h : x ∈ clip a b qs) : ∃ p ∈ qs, clipP a b p = some x := List.mem_filterMap.mp h
theorem clip_rise {a b : Int} : ∀ {qs : List Pt}, Rise qs → Rise (clip a b qs)
  | [], _ => ⟨fun p hp => (nomatch hp), .nil⟩
  | q :: r, h => by
    have hr : Rise r := ⟨fun x hx => h.1 x (List.mem_cons_of_mem _ hx), (List.pairwise_cons.mp h.2).2⟩
    have ih := clip_rise (a := a) (b := b) hr
    unfold clip
    rw [List.filterMap_cons]
    cases hc : clipP a b q with
    | none => exact ih
    | some x =>
      obtain ⟨e1, e2, _, _, e5⟩ := clipP_some hc
      refine ⟨fun p hp => ?_, List.pairwise_cons.mpr ⟨fun y hy => ?_, ih.2⟩⟩
      · rcases List.mem_cons.mp hp with rfl | hp
        · exact e5
        · exact ih.1 p hp
      · obtain ⟨p, hp, hpy⟩ := clip_mem hy
        obtain ⟨f1, f2, _, _, f5⟩ := clipP_some hpy
        have := (List.pairwise_cons.mp h.2).1 p hp
        omega
/-- what rising pieces tell of a day -/
theorem text_cases {ps : List Pt} (h : Rise ps) (d : Int) : (∃ p ∈ ps, (p.lo ≤ d ∧ d < p.e) ∧ textAt ps.reverse d = p.r) ∨ ((∀ p ∈ ps, ¬ (p.lo ≤ d ∧ d < p.e)) ∧ textAt ps.reverse d = nonR) := by
  by_cases c : ∃ p ∈ ps, cov p d = true
  · obtain ⟨p, hp, hc⟩ := c
    exact .inl ⟨p, hp, cov_true.mp hc, text_of (rise_up h) hp hc⟩
  · refine .inr ⟨fun p hp z => c ⟨p, hp, cov_true.mpr z⟩, text_none fun p hp => ?_⟩
    rw [← Bool.not_eq_true]
    exact fun z => c ⟨p, hp, z⟩
theorem text_at {ps : List Pt} (h : Rise ps) {d : Int} {p : Pt} (hp : p ∈ ps) (h1 : p.lo ≤ d) (h2 : d < p.e) : textAt ps.reverse d = p.r := text_of (rise_up h) hp (cov_true.mpr ⟨h1, h2⟩)
theorem text_no {ps : List Pt} {d : Int} (h : ∀ p ∈ ps, ¬ (p.lo ≤ d ∧ d < p.e)) : textAt ps.reverse d = nonR := text_none fun p hp => cov_false.mpr (h p hp)
theorem clip_text {a b : Int} {qs : List Pt} (h : Rise qs) (d : Int) : textAt (clip a b qs).reverse d = if a ≤ d ∧ d < b then textAt qs.reverse d else nonR := by
  have hc := clip_rise (a := a) (b := b) h
  by_cases c : a ≤ d ∧ d < b
  · rw [if_pos c]
    rcases text_cases h d with ⟨p, hp, z, e⟩ | ⟨no, e⟩
    · have hx : clipP a b p = some ⟨max p.lo a, min p.e b, p.v, p.r⟩ := by
        unfold clipP
        rw [if_pos (by omega)]
      rw [e]
      exact text_at hc (p := ⟨max p.lo a, min p.e b, p.v, p.r⟩) (List.mem_filterMap.mpr ⟨p, hp, hx⟩) (by dsimp only; omega) (by dsimp only; omega)
    · rw [e]
      refine text_no fun x hx z => ?_
      obtain ⟨p, hp, hpx⟩ := clip_mem hx
      obtain ⟨f1, f2, _, _, _⟩ := clipP_some hpx
      exact no p hp (by omega)
  · rw [if_neg c]
    refine text_no fun x hx z => ?_
    obtain ⟨p, hp, hpx⟩ := clip_mem hx
    obtain ⟨f1, f2, _, _, _⟩ := clipP_some hpx
    omega
theorem clip_len (a b : Int) (qs : List Pt) : (clip a b qs).length ≤ qs.length := List.length_filterMap_le ..
/-- painted: ahead, amid, behind -/
theorem paint_rise {qs amid : List Pt} {low h z : Int} {r : Str} (hq : Rise qs) (hA : ∀ p ∈ amid, p.lo = low ∧ p.e = h) (hA1 : amid.length ≤ 1) (hl : low < h) : Rise (clip 0 low qs ++ amid ++ clip h z qs) := by
  have r1 := clip_rise (a := 0) (b := low) hq
  have r2 := clip_rise (a := h) (b := z) hq
  refine ⟨fun p hp => ?_, ?_⟩
  · rcases List.mem_append.mp hp with hp | hp
    · rcases List.mem_append.mp hp with hp | hp
      · exact r1.1 p hp
      · have := hA p hp
        omega
    · exact r2.1 p hp
  · rw [List.pairwise_append, List.pairwise_append]
    refine ⟨⟨r1.2, ?_, fun x hx y hy => ?_⟩, r2.2, fun x hx y hy => ?_⟩
    · match amid, hA1 with
      | [], _ => exact .nil
      | [p], _ => exact List.pairwise_singleton ..
    · obtain ⟨p, hp, hpx⟩ := clip_mem hx
      obtain ⟨f1, f2, _, _, _⟩ := clipP_some hpx
      have := hA y hy
      omega
    · obtain ⟨p, hp, hpy⟩ := clip_mem hy
      obtain ⟨g1, g2, _, _, _⟩ := clipP_some hpy
      rcases List.mem_append.mp hx with hx | hx
      · obtain ⟨p', hp', hpx⟩ := clip_mem hx
        obtain ⟨f1, f2, _, _, _⟩ := clipP_some hpx
        omega
      · have := hA x hx
        omega
theorem paint_text {qs amid : List Pt} {low h z : Int} {r : Str} (hq : Rise qs) (hin : ∀ q ∈ qs, 0 ≤ q.lo ∧ q.e ≤ z) (hA : ∀ p ∈ amid, p.lo = low ∧ p.e = h) (hA2 : ∀ p ∈ amid, p.r = r) (hA1 : amid.length ≤ 1) (hN : amid = [] → r = nonR) (hl : low < h) (d : Int) :
    textAt (clip 0 low qs ++ amid ++ clip h z qs).reverse d = if low ≤ d ∧ d < h then r else textAt qs.reverse d := by
  have R := paint_rise (r := r) (z := z) hq hA hA1 hl
  have noA : ∀ p ∈ clip 0 low qs, ¬ (low ≤ d ∧ p.lo ≤ d ∧ d < p.e) := fun p hp c => by
    obtain ⟨p', hp', hpx⟩ := clip_mem hp
    obtain ⟨f1, f2, _, _, _⟩ := clipP_some hpx
    omega
  have noC : ∀ p ∈ clip h z qs, ¬ (d < h ∧ p.lo ≤ d ∧ d < p.e) := fun p hp c => by
    obtain ⟨p', hp', hpx⟩ := clip_mem hp
    obtain ⟨f1, f2, _, _, _⟩ := clipP_some hpx
    omega
  by_cases c : low ≤ d ∧ d < h
  · rw [if_pos c]
    match amid, hA, hA2, hA1, hN, R with
    | [], _, _, _, hN, R =>
      rw [hN rfl]
      refine text_no fun p hp w => ?_
      rcases List.mem_append.mp hp with hp | hp
      · rcases List.mem_append.mp hp with hp | hp
        · exact noA p hp ⟨c.1, w⟩
        · cases hp
      · exact noC p hp ⟨c.2, w⟩
    | [p], hA, hA2, _, _, R =>
      have e := hA p (List.mem_cons_self ..)
      rw [text_at R (p := p) (by simp) (by omega) (by omega)]
      exact hA2 p (List.mem_cons_self ..)
  · rw [if_neg c]
    rcases text_cases hq d with ⟨p, hp, w, e⟩ | ⟨no, e⟩
    · rw [e]
      have hp0 := hin p hp
      by_cases c1 : d < low
      · have hx : clipP 0 low p = some ⟨max p.lo 0, min p.e low, p.v, p.r⟩ := by
          unfold clipP
          rw [if_pos (by omega)]
        exact text_at R (p := ⟨max p.lo 0, min p.e low, p.v, p.r⟩) (List.mem_append.mpr (.inl (List.mem_append.mpr (.inl (List.mem_filterMap.mpr ⟨p, hp, hx⟩))))) (by dsimp only; omega) (by dsimp only; omega)
      · have hx : clipP h z p = some ⟨max p.lo h, min p.e z, p.v, p.r⟩ := by
          unfold clipP
          rw [if_pos (by omega)]
        exact text_at R (p := ⟨max p.lo h, min p.e z, p.v, p.r⟩) (List.mem_append.mpr (.inr (List.mem_filterMap.mpr ⟨p, hp, hx⟩))) (by dsimp only; omega) (by dsimp only; omega)
    · rw [e]
      refine text_no fun p hp w => ?_
      rcases List.mem_append.mp hp with hp | hp
      · rcases List.mem_append.mp hp with hp | hp
        · obtain ⟨p', hp', hpx⟩ := clip_mem hp
          obtain ⟨f1, f2, _, _, _⟩ := clipP_some hpx
          exact no p' hp' (by omega)
        · have := hA p hp
          omega
      · obtain ⟨p', hp', hpx⟩ := clip_mem hp
        obtain ⟨f1, f2, _, _, _⟩ := clipP_some hpx
        exact no p' hp' (by omega)
/-! ### joined: those that touch and are alike as one; the last one first -/
def joinStep (acc : List Pt) (p : Pt) : List Pt := match acc with
  | q :: rest => if q.e = p.lo ∧ q.r = p.r then ⟨q.lo, p.e, p.v, p.r⟩ :: rest else p :: q :: rest
  | [] => [p]
theorem join_step {acc : List Pt} {p : Pt} (hc : Can acc) (h1 : p.lo < p.e) (h2 : p.r ≠ nonR) (h3 : ∀ q ∈ acc, q.e ≤ p.lo) : Can (joinStep acc p) ∧ (∀ d, textAt (joinStep acc p) d = textAt (p :: acc) d) ∧ (∀ q ∈ joinStep acc p, q.e ≤ p.e) ∧ (joinStep acc p).length ≤ acc.length + 1 := by
  cases acc with
  | nil => exact ⟨⟨⟨h1, fun x hx => (nomatch hx), trivial⟩, trivial, fun q hq => by rw [List.mem_singleton.mp hq]; exact h2⟩, fun _ => rfl, fun q hq => by rw [List.mem_singleton.mp hq]; exact Int.le_refl _, Nat.le_refl _⟩
  | cons q rest =>
    have q1 := hc.down.1
    have q2 := hc.down.2.1
    have q3 := h3 q (List.mem_cons_self ..)
    unfold joinStep
    by_cases c : q.e = p.lo ∧ q.r = p.r
    · simp only [if_pos c]
      refine ⟨⟨⟨?_, q2, hc.down.2.2⟩, ?_, fun x hx => ?_⟩, fun d => ?_, fun x hx => ?_, by simp⟩
      · show q.lo < p.e
        omega
      · refine Sep.cons hc.sep.tail fun x s hx hxe => ?_
        show x.r ≠ p.r
        rw [← c.2]
        subst hx
        exact hc.sep.head hxe
      · rcases List.mem_cons.mp hx with rfl | hx
        · exact h2
        · exact hc.full x (List.mem_cons_of_mem _ hx)
      · by_cases c1 : p.lo ≤ d ∧ d < p.e
        · rw [text_head (q := p) c1.1 c1.2, text_head (q := ⟨q.lo, p.e, p.v, p.r⟩) (by dsimp only; omega) c1.2]
        · rw [text_skip c1]
          by_cases c2 : q.lo ≤ d ∧ d < q.e
          · rw [text_head c2.1 c2.2, text_head (q := ⟨q.lo, p.e, p.v, p.r⟩) c2.1 (by dsimp only; omega)]
            exact c.2.symm
          · rw [text_skip c2, text_skip (q := ⟨q.lo, p.e, p.v, p.r⟩) (by dsimp only; omega)]
      · rcases List.mem_cons.mp hx with rfl | hx
        · exact Int.le_refl _
        · have := q2 x hx
          omega
    · simp only [if_neg c]
      refine ⟨⟨⟨h1, h3, hc.down⟩, ⟨fun e z => c ⟨e, z⟩, hc.sep⟩, fun x hx => ?_⟩, fun d => by first | trivial | rfl, fun x hx => ?_, by simp⟩
      · rcases List.mem_cons.mp hx with rfl | hx
        · exact h2
        · exact hc.full x hx
      · rcases List.mem_cons.mp hx with rfl | hx
        · exact Int.le_refl _
        · have := h3 x hx
          omega
theorem text_congr {p : Pt} {a b : List Pt} {d : Int} (h : textAt a d = textAt b d) : textAt (p :: a) d = textAt (p :: b) d := by
  rw [textAt_cons, textAt_cons, h]
theorem text_app : ∀ {a b c : List Pt} {d : Int}, textAt b d = textAt c d → textAt (a ++ b) d = textAt (a ++ c) d
  | [], _, _, _, h => h
  | _ :: _, _, _, _, h => text_congr (text_app h)
theorem join_all : ∀ {ps acc : List Pt}, Can acc → Rise ps → (∀ p ∈ ps, p.r ≠ nonR) → (∀ q ∈ acc, ∀ p ∈ ps, q.e ≤ p.lo) → Can (ps.foldl joinStep acc) ∧ (∀ d, textAt (ps.foldl joinStep acc) d = textAt (ps.reverse ++ acc) d) ∧ (ps.foldl joinStep acc).length ≤ acc.length + ps.length
  | [], acc, hc, _, _, _ => ⟨hc, fun _ => rfl, Nat.le_refl _⟩
  | p :: ps, acc, hc, hr, hn, hb => by
    have hp := List.pairwise_cons.mp hr.2
    obtain ⟨s1, s2, s3, s4⟩ := join_step hc (hr.1 p (List.mem_cons_self ..)) (hn p (List.mem_cons_self ..)) fun q hq => hb q hq p (List.mem_cons_self ..)
    obtain ⟨t1, t2, t3⟩ := join_all (ps := ps) s1 ⟨fun x hx => hr.1 x (List.mem_cons_of_mem _ hx), hp.2⟩ (fun x hx => hn x (List.mem_cons_of_mem _ hx)) fun q hq x hx => by
      have := s3 q hq
      have := hp.1 x hx
      omega
    refine ⟨t1, fun d => ?_, ?_⟩
    · rw [List.foldl_cons, t2 d, List.reverse_cons, List.append_assoc]
      exact text_app (s2 d)
    · rw [List.foldl_cons, List.length_cons]
      omega
theorem join_can {ps : List Pt} (hr : Rise ps) (hn : ∀ p ∈ ps, p.r ≠ nonR) : Can (ps.foldl joinStep []) ∧ (∀ d, textAt (ps.foldl joinStep []) d = textAt ps.reverse d) ∧ (ps.foldl joinStep []).length ≤ ps.length := by
  obtain ⟨a, b, c⟩ := join_all (acc := []) ⟨trivial, trivial, fun q hq => (nomatch hq)⟩ hr hn fun q hq => (nomatch hq)
  refine ⟨a, fun d => ?_, by simpa using c⟩
  rw [b d, List.append_nil]
/-- what paints tell with one more -/
theorem atR_snoc {ps : List Pt} {p : Pt} (d : Int) : atR (ps ++ [p]) d = if p.lo ≤ d ∧ d < p.e then p.r else atR ps d := by
  unfold atR lastAt
  rw [List.reverse_append, List.reverse_singleton, List.singleton_append, List.find?_cons]
  by_cases c : p.lo ≤ d ∧ d < p.e
  · rw [if_pos c, cov_true.mpr c]
  · rw [if_neg c, cov_false.mpr c]
end Ln
namespace Ln
open PySem L2
/-! ### told lines, by pairs -/
structure CanP (l : List Pt) : Prop where
  lt : ∀ p ∈ l, p.lo < p.e
  pair : l.Pairwise fun x y => x.e ≤ y.lo ∧ (x.e = y.lo → x.r ≠ y.r)
  full : ∀ p ∈ l, p.r ≠ nonR
theorem sep_of : ∀ {l : List Pt}, (l.Pairwise fun x y => y.e = x.lo → y.r ≠ x.r) → Sep l
  | [], _ => trivial
  | [_], _ => trivial
  | q :: x :: r, h => ⟨(List.pairwise_cons.mp h).1 x (List.mem_cons_self ..), sep_of (List.pairwise_cons.mp h).2⟩
theorem of_sep : ∀ {l : List Pt}, Down l → Sep l → l.Pairwise fun x y => y.e = x.lo → y.r ≠ x.r
  | [], _, _ => .nil
  | [_], _, _ => List.pairwise_singleton ..
  | q :: x :: r, hd, hs => by
    refine List.pairwise_cons.mpr ⟨fun y hy e => ?_, of_sep hd.2.2 hs.2⟩
    rcases List.mem_cons.mp hy with rfl | hy
    · exact hs.1 e
    · have h1 := hd.2.1 x (List.mem_cons_self ..)
      have h2 := hd.2.2.1
      have h3 := hd.2.2.2.1 y hy
      omega
theorem CanP.can {l : List Pt} (h : CanP l) : Can l.reverse := by
  refine ⟨rise_up ⟨h.lt, h.pair.imp fun z => z.1⟩, sep_of ?_, fun q hq => h.full q (List.mem_reverse.mp hq)⟩
  rw [List.pairwise_reverse]
  exact h.pair.imp fun z => z.2
theorem Can.pairs {l : List Pt} (h : Can l.reverse) : CanP l := by
  refine ⟨up_each h.down, ?_, fun p hp => h.full p (List.mem_reverse.mpr hp)⟩
  have a := up_pair h.down
  have b := of_sep h.down h.sep
  rw [List.pairwise_reverse] at b
  exact a.and b
theorem CanP.rise {l : List Pt} (h : CanP l) : Rise l := ⟨h.lt, h.pair.imp fun z => z.1⟩
theorem clip_can {a b : Int} : ∀ {qs : List Pt}, CanP qs → CanP (clip a b qs)
  | [], _ => ⟨fun p hp => (nomatch hp), .nil, fun p hp => (nomatch hp)⟩
  | q :: r, h => by
    have hp := List.pairwise_cons.mp h.pair
    have ih := clip_can (a := a) (b := b) (qs := r) ⟨fun x hx => h.lt x (List.mem_cons_of_mem _ hx), hp.2, fun x hx => h.full x (List.mem_cons_of_mem _ hx)⟩
    unfold clip
    rw [List.filterMap_cons]
    cases hc : clipP a b q with
    | none => exact ih
    | some x =>
      obtain ⟨e1, e2, _, e4, e5⟩ := clipP_some hc
      refine ⟨fun p hp => ?_, List.pairwise_cons.mpr ⟨fun y hy => ?_, ih.pair⟩, fun p hp => ?_⟩
      · rcases List.mem_cons.mp hp with rfl | hp
        · exact e5
        · exact ih.lt p hp
      · obtain ⟨p, hp', hpy⟩ := clip_mem hy
        obtain ⟨f1, f2, _, f4, f5⟩ := clipP_some hpy
        have z := hp.1 p hp'
        refine ⟨by omega, fun e => ?_⟩
        rw [e4, f4]
        exact z.2 (by omega)
      · rcases List.mem_cons.mp hp with rfl | hp
        · rw [e4]
          exact h.full q (List.mem_cons_self ..)
        · exact ih.full p hp
theorem same_keys {x y : List Pt} (hx : Can x.reverse) (hy : Can y.reverse) (h : ∀ d, textAt x.reverse d = textAt y.reverse d) : x.map key = y.map key := by
  have := can_uniq hx hy h
  rw [List.map_reverse, List.map_reverse] at this
  exact List.reverse_inj.mp this
/-- how many pieces stand ahead and behind -/
theorem clip_two : ∀ {qs : List Pt} {a b z : Int}, Rise qs → a < b → (clip 0 a qs).length + (clip b z qs).length ≤ qs.length + 1
  | [], _, _, _, _, _ => by simp [clip]
  | q :: r, a, b, z, h, hab => by
    have hp := List.pairwise_cons.mp h.2
    have hr : Rise r := ⟨fun x hx => h.1 x (List.mem_cons_of_mem _ hx), hp.2⟩
    have ih := clip_two (a := a) (b := b) (z := z) hr hab
    have q0 := h.1 q (List.mem_cons_self ..)
    unfold clip at ih ⊢
    rw [List.filterMap_cons, List.filterMap_cons]
    cases c1 : clipP 0 a q with
    | none =>
      cases c2 : clipP b z q with
      | none => simp only [List.length_cons]; omega
      | some y => simp only [List.length_cons]; omega
    | some x =>
      cases c2 : clipP b z q with
      | none => simp only [List.length_cons]; omega
      | some y =>
        obtain ⟨e1, e2, _, _, e5⟩ := clipP_some c1
        obtain ⟨f1, f2, _, _, f5⟩ := clipP_some c2
        have none_ : r.filterMap (clipP 0 a) = [] := by
          rw [List.filterMap_eq_nil_iff]
          intro p hp'
          have := hp.1 p hp'
          exact if_neg (by omega)
        have l2 : (r.filterMap (clipP b z)).length ≤ r.length := List.length_filterMap_le ..
        rw [none_]
        simp only [List.length_cons, List.length_nil]
        omega
/-! ### days on which nothing is, as spans with a text of their own -/
def gapR : Str := "-"
theorem gap_ne : gapR ≠ nonR := by decide +kernel
def gapP (a b : Int) : Pt := ⟨a, b, .non, gapR⟩
/-- from beg on, to below h, between pieces that rise -/
def bareP (h : Int) : Int → List Pt → List Pt
  | beg, [] => if beg < h then [gapP beg h] else []
  | beg, p :: r => (if beg < p.lo then [gapP beg p.lo] else []) ++ bareP h p.e r
theorem bareP_from {h : Int} : ∀ {qs : List Pt} {beg : Int}, Rise qs → (∀ p ∈ qs, beg ≤ p.lo ∧ p.e ≤ h) → ∀ g ∈ bareP h beg qs, beg ≤ g.lo ∧ g.e ≤ h ∧ g.lo < g.e ∧ g.r = gapR
  | [], beg, _, _, g, hg => by
    unfold bareP at hg
    split at hg
    · rw [List.mem_singleton.mp hg]
      next c => exact ⟨Int.le_refl _, Int.le_refl _, c, rfl⟩
    · cases hg
  | p :: r, beg, hr, hb, g, hg => by
    have hp := List.pairwise_cons.mp hr.2
    have b0 := hb p (List.mem_cons_self ..)
    have l0 := hr.1 p (List.mem_cons_self ..)
    unfold bareP at hg
    rcases List.mem_append.mp hg with hg | hg
    · split at hg
      · rw [List.mem_singleton.mp hg]
        next c => exact ⟨Int.le_refl _, by show p.lo ≤ h; omega, c, rfl⟩
      · cases hg
    · have := bareP_from (beg := p.e) ⟨fun x hx => hr.1 x (List.mem_cons_of_mem _ hx), hp.2⟩ (fun x hx => ⟨hp.1 x hx, (hb x (List.mem_cons_of_mem _ hx)).2⟩) g hg
      exact ⟨by omega, this.2⟩
theorem bareP_can {h : Int} : ∀ {qs : List Pt} {beg : Int}, Rise qs → (∀ p ∈ qs, beg ≤ p.lo ∧ p.e ≤ h) → CanP (bareP h beg qs)
  | [], beg, _, _ => by
    unfold bareP
    split
    · next c => exact ⟨fun p hp => by rw [List.mem_singleton.mp hp]; exact c, List.pairwise_singleton .., fun p hp => by rw [List.mem_singleton.mp hp]; exact gap_ne⟩
    · exact ⟨fun p hp => (nomatch hp), .nil, fun p hp => (nomatch hp)⟩
  | p :: r, beg, hr, hb => by
    have hp := List.pairwise_cons.mp hr.2
    have hr' : Rise r := ⟨fun x hx => hr.1 x (List.mem_cons_of_mem _ hx), hp.2⟩
    have hb' : ∀ x ∈ r, p.e ≤ x.lo ∧ x.e ≤ h := fun x hx => ⟨hp.1 x hx, (hb x (List.mem_cons_of_mem _ hx)).2⟩
    have ih := bareP_can (beg := p.e) hr' hb'
    have fr := bareP_from (beg := p.e) hr' hb'
    have l0 := hr.1 p (List.mem_cons_self ..)
    unfold bareP
    split
    · next c =>
      refine ⟨fun x hx => ?_, ?_, fun x hx => ?_⟩
      · rcases List.mem_append.mp hx with hx | hx
        · rw [List.mem_singleton.mp hx]
          exact c
        · exact ih.lt x hx
      · rw [List.pairwise_append]
        refine ⟨List.pairwise_singleton .., ih.pair, fun x hx y hy => ?_⟩
        rw [List.mem_singleton.mp hx]
        have := fr y hy
        refine ⟨by show p.lo ≤ y.lo; omega, fun e => ?_⟩
        have e' : p.lo = y.lo := e
        omega
      · rcases List.mem_append.mp hx with hx | hx
        · rw [List.mem_singleton.mp hx]
          exact gap_ne
        · exact ih.full x hx
    · simpa using ih
theorem bareP_text {h : Int} : ∀ {qs : List Pt} {beg : Int}, Rise qs → (∀ p ∈ qs, beg ≤ p.lo ∧ p.e ≤ h) → ∀ d, textAt (bareP h beg qs).reverse d = if (beg ≤ d ∧ d < h) ∧ ∀ p ∈ qs, ¬ (p.lo ≤ d ∧ d < p.e) then gapR else nonR := by
  intro qs beg hr hb d
  have can := bareP_can hr hb
  have cover : (∃ g ∈ bareP h beg qs, g.lo ≤ d ∧ d < g.e) ↔ ((beg ≤ d ∧ d < h) ∧ ∀ p ∈ qs, ¬ (p.lo ≤ d ∧ d < p.e)) := by
    clear can
    induction qs generalizing beg with
    | nil =>
      unfold bareP
      constructor
      · rintro ⟨g, hg, h1, h2⟩
        split at hg
        · rw [List.mem_singleton.mp hg] at h1 h2
          exact ⟨⟨h1, h2⟩, fun p hp => (nomatch hp)⟩
        · cases hg
      · rintro ⟨⟨h1, h2⟩, _⟩
        rw [if_pos (by omega)]
        exact ⟨_, List.mem_cons_self .., h1, h2⟩
    | cons p r ih =>
      have hp := List.pairwise_cons.mp hr.2
      have hr' : Rise r := ⟨fun x hx => hr.1 x (List.mem_cons_of_mem _ hx), hp.2⟩
      have hb' : ∀ x ∈ r, p.e ≤ x.lo ∧ x.e ≤ h := fun x hx => ⟨hp.1 x hx, (hb x (List.mem_cons_of_mem _ hx)).2⟩
      have ih' := ih (beg := p.e) hr' hb'
      have l0 := hr.1 p (List.mem_cons_self ..)
      have b0 := hb p (List.mem_cons_self ..)
      unfold bareP
      constructor
      · rintro ⟨g, hg, h1, h2⟩
        rcases List.mem_append.mp hg with hg | hg
        · split at hg
          · rw [List.mem_singleton.mp hg] at h1 h2
            have h1' : beg ≤ d := h1
            have h2' : d < p.lo := h2
            refine ⟨by omega, fun x hx => ?_⟩
            rcases List.mem_cons.mp hx with rfl | hx
            · omega
            · have := hb' x hx
              omega
          · cases hg
        · obtain ⟨z1, z2⟩ := ih'.mp ⟨g, hg, h1, h2⟩
          refine ⟨by omega, fun x hx => ?_⟩
          rcases List.mem_cons.mp hx with rfl | hx
          · omega
          · exact z2 x hx
      · rintro ⟨⟨h1, h2⟩, h3⟩
        have n0 := h3 p (List.mem_cons_self ..)
        by_cases c : d < p.lo
        · refine ⟨gapP beg p.lo, List.mem_append.mpr (.inl ?_), h1, c⟩
          rw [if_pos (by omega)]
          exact List.mem_cons_self ..
        · obtain ⟨g, hg, z⟩ := ih'.mpr ⟨by omega, fun x hx => h3 x (List.mem_cons_of_mem _ hx)⟩
          exact ⟨g, List.mem_append.mpr (.inr hg), z⟩
  by_cases c : (beg ≤ d ∧ d < h) ∧ ∀ p ∈ qs, ¬ (p.lo ≤ d ∧ d < p.e)
  · rw [if_pos c]
    obtain ⟨g, hg, h1, h2⟩ := cover.mpr c
    rw [text_at can.rise hg h1 h2]
    exact (bareP_from hr hb g hg).2.2.2
  · rw [if_neg c]
    exact text_no fun g hg z => c (cover.mp ⟨g, hg, z⟩)
theorem bareP_len {h : Int} : ∀ {qs : List Pt} {beg : Int}, (bareP h beg qs).length ≤ qs.length + 1
  | [], _ => by
    unfold bareP
    split <;> simp
  | p :: r, _ => by
    have ih := bareP_len (h := h) (qs := r) (beg := p.e)
    unfold bareP
    rw [List.length_append, List.length_cons]
    split
    · rw [List.length_singleton]
      omega
    · rw [List.length_nil]
      omega
/-- nothing covers a day just where the text is None's -/
theorem text_iff {qs : List Pt} (hr : Rise qs) (hf : ∀ p ∈ qs, p.r ≠ nonR) (d : Int) : (∀ p ∈ qs, ¬ (p.lo ≤ d ∧ d < p.e)) ↔ textAt qs.reverse d = nonR := by
  rcases text_cases hr d with ⟨p, hp, z, e⟩ | ⟨no, e⟩
  · refine ⟨fun h => absurd z (h p hp), fun h => ?_⟩
    rw [e] at h
    exact absurd h (hf p hp)
  · exact ⟨fun _ => e, fun _ => no⟩
/-! ### the law's own walk over gaps -/
def gapsOf (ps : List Pt) : List Int → List Pt
  | a :: b :: r => (if atV ps a = .non then [gapP a b] else []) ++ gapsOf ps (b :: r)
  | _ => []
theorem gaps_from {ps : List Pt} : ∀ {ds : List Int} {a : Int}, (a :: ds).Pairwise (· < ·) → ∀ g ∈ gapsOf ps (a :: ds), a ≤ g.lo ∧ g.lo < g.e ∧ g.r = gapR
  | [], a, _, g, hg => by cases hg
  | b :: r, a, hs, g, hg => by
    have s1 := List.pairwise_cons.mp hs
    have hab := s1.1 b (List.mem_cons_self ..)
    unfold gapsOf at hg
    rcases List.mem_append.mp hg with hg | hg
    · split at hg
      · rw [List.mem_singleton.mp hg]
        exact ⟨Int.le_refl _, hab, rfl⟩
      · cases hg
    · have := gaps_from s1.2 g hg
      exact ⟨by omega, this.2⟩
theorem gaps_rise {ps : List Pt} : ∀ {ds : List Int}, ds.Pairwise (· < ·) → Rise (gapsOf ps ds)
  | [], _ => ⟨fun p hp => (nomatch hp), .nil⟩
  | [_], _ => ⟨fun p hp => (nomatch hp), .nil⟩
  | a :: b :: r, hs => by
    have s1 := List.pairwise_cons.mp hs
    have hab := s1.1 b (List.mem_cons_self ..)
    have ih := gaps_rise (ps := ps) s1.2
    unfold gapsOf
    split
    · refine ⟨fun x hx => ?_, ?_⟩
      · rcases List.mem_append.mp hx with hx | hx
        · rw [List.mem_singleton.mp hx]
          exact hab
        · exact ih.1 x hx
      · rw [List.pairwise_append]
        refine ⟨List.pairwise_singleton .., ih.2, fun x hx y hy => ?_⟩
        rw [List.mem_singleton.mp hx]
        exact (gaps_from s1.2 y hy).1
    · simpa using ih
/-- between cut days nothing changes -/
theorem gaps_text {ps : List Pt} (hpl : Plain ps) (hso : Solid ps) : ∀ {ds : List Int} {a : Int}, (a :: ds).Pairwise (· < ·) → (∀ p ∈ ps, (p.lo ≤ a ∨ p.lo ∈ ds ∨ (a :: ds).getLast (by simp) ≤ p.lo) ∧ (p.e ≤ a ∨ p.e ∈ ds ∨ (a :: ds).getLast (by simp) ≤ p.e)) → ∀ d, textAt (gapsOf ps (a :: ds)).reverse d = if (a ≤ d ∧ d < (a :: ds).getLast (by simp)) ∧ atR ps d = nonR then gapR else nonR := by
  intro ds
  induction ds with
  | nil =>
    intro a _ _ d
    rw [if_neg (by simp; omega)]
    rfl
  | cons b r ih =>
    intro a hs hm d
    have s1 := List.pairwise_cons.mp hs
    have s2 := List.pairwise_cons.mp s1.2
    have hab := s1.1 b (List.mem_cons_self ..)
    have last_ : (a :: b :: r).getLast (by simp) = (b :: r).getLast (by simp) := List.getLast_cons (by simp)
    have most := last_most r b s1.2 b (List.mem_cons_self ..)
    have between : ∀ x, (x ≤ a ∨ x ∈ b :: r ∨ (a :: b :: r).getLast (by simp) ≤ x) → x ≤ a ∨ b ≤ x := fun x hx => by
      rcases hx with h | h | h
      · exact .inl h
      · rcases List.mem_cons.mp h with rfl | h
        · exact .inr (Int.le_refl _)
        · have := s2.1 x h
          exact .inr (by omega)
      · rw [last_] at h
        exact .inr (by omega)
    have now : ∀ x, a ≤ x → x < b → lastAt ps x = lastAt ps a := fun x h1 h2 => atR_const (fun p h => ⟨between _ (hm p h).1, between _ (hm p h).2⟩) h1 h2
    have ih' := ih s1.2 (fun p h => by
      have onward : ∀ x, (x ≤ a ∨ x ∈ b :: r ∨ (a :: b :: r).getLast (by simp) ≤ x) → x ≤ b ∨ x ∈ r ∨ (b :: r).getLast (by simp) ≤ x := fun x hx => by
        rcases hx with h | h | h
        · exact .inl (by omega)
        · rcases List.mem_cons.mp h with rfl | h
          · exact .inl (Int.le_refl _)
          · exact .inr (.inl h)
        · rw [last_] at h
          exact .inr (.inr h)
      exact ⟨onward _ (hm p h).1, onward _ (hm p h).2⟩) d
    have rise := gaps_rise (ps := ps) hs
    have riseR := gaps_rise (ps := ps) s1.2
    have non_iff : atV ps a = .non ↔ atR ps a = nonR := by
      refine ⟨atR_non hpl, fun h => ?_⟩
      cases e : lastAt ps a with
      | none =>
        unfold atV
        rw [e]
      | some p =>
        have hp := (lastAt_mem e).1
        have h1 : atR ps a = p.r := by unfold atR; rw [e]
        have h2 : atV ps a = p.v := by unfold atV; rw [e]
        rw [h2]
        by_cases z : p.v = .non
        · exact z
        · rw [h1] at h
          exact absurd h (hso p hp z)
    rw [last_]
    have sub : ∀ g ∈ gapsOf ps (b :: r), g ∈ gapsOf ps (a :: b :: r) := fun g hg => by
      unfold gapsOf
      exact List.mem_append.mpr (.inr hg)
    by_cases c : d < b
    · have noR : ∀ g ∈ gapsOf ps (b :: r), ¬ (g.lo ≤ d ∧ d < g.e) := fun g hg z => by
        have := gaps_from s1.2 g hg
        omega
      by_cases c1 : a ≤ d
      · have eq : atR ps d = atR ps a := atR_of (now d c1 c)
        rw [eq]
        by_cases hv : atV ps a = .non
        · rw [if_pos ⟨by omega, non_iff.mp hv⟩]
          refine text_at rise (p := gapP a b) ?_ c1 c
          unfold gapsOf
          rw [if_pos hv]
          exact List.mem_append.mpr (.inl (List.mem_cons_self ..))
        · rw [if_neg (fun z => hv (non_iff.mpr z.2))]
          refine text_no fun g hg z => ?_
          unfold gapsOf at hg
          rw [if_neg hv] at hg
          exact noR g (by simpa using hg) z
      · rw [if_neg (fun z => c1 z.1.1)]
        refine text_no fun g hg z => ?_
        have := (gaps_from hs g hg).1
        omega
    · have e : textAt (gapsOf ps (a :: b :: r)).reverse d = textAt (gapsOf ps (b :: r)).reverse d := by
        rcases text_cases riseR d with ⟨g, hg, z, e⟩ | ⟨no, e⟩
        · rw [e]
          exact text_at rise (sub g hg) z.1 z.2
        · rw [e]
          refine text_no fun g hg z => ?_
          unfold gapsOf at hg
          rcases List.mem_append.mp hg with hg | hg
          · split at hg
            · rw [List.mem_singleton.mp hg] at z
              have z2 : d < b := z.2
              omega
            · cases hg
          · exact no g hg z
      rw [e, ih']
      by_cases c2 : (b ≤ d ∧ d < (b :: r).getLast (by simp)) ∧ atR ps d = nonR
      · rw [if_pos c2, if_pos ⟨by omega, c2.2⟩]
      · rw [if_neg c2, if_neg fun z => c2 ⟨by omega, z.2⟩]
end Ln
namespace Ln
open PySem L2
/-! ### things, and tuples of things, as data -/
inductive TD : V → PyData → Prop
  | non : TD .non .none
  | int (i : Int) (h : i.natAbs ≤ 10 ^ 18) : TD (.int i) (.int i)
  | str (y : Str) (h1 : 1 ≤ y.length) (h : y.length ≤ 8) (o : Tx.Let y) : TD (.str y) (.str y)
inductive TDs : List V → List PyData → Prop
  | nil : TDs [] []
  | cons {v : V} {d : PyData} {vs : List V} {ds : List PyData} (h : TD v d) (r : TDs vs ds) : TDs (v :: vs) (d :: ds)
/-- None, or a number -/
inductive WA : V → PyData → Prop
  | non : WA .non .none
  | int (i : Int) (h : i.natAbs ≤ 10 ^ 18) : WA (.int i) (.int i)
theorem WA.td {v : V} {d : PyData} (x : WA v d) : TD v d := by
  cases x with
  | non => exact .non
  | int i h => exact .int i h
def WhatOk (H : Hp) (v : V) (d : PyData) : Prop := WA v d ∨ ∃ (a : Addr) (xs : List V) (ds : List PyData), v = .ref a ∧ H a = some (.tup xs) ∧ xs.length ≤ 4 ∧ TDs xs ds ∧ d = .tuple ds
/-- all tuples stand -/
def Keep (H H' : Hp) : Prop := ∀ a xs, H a = some (.tup xs) → H' a = some (.tup xs)
theorem Keep.of {H H' : Hp} (s : Same H H') : Keep H H' := fun a xs e => s a _ e
theorem Keep.trans {H H1 H2 : Hp} (a : Keep H H1) (b : Keep H1 H2) : Keep H H2 := fun c xs e => b c xs (a c xs e)
theorem Keep.refl (H : Hp) : Keep H H := fun _ _ e => e
theorem WhatOk.keep {H H' : Hp} {v : V} {d : PyData} (x : WhatOk H v d) (k : Keep H H') : WhatOk H' v d := by
  rcases x with x | ⟨a, xs, ds, h1, h2, h3⟩
  · exact .inl x
  · exact .inr ⟨a, xs, ds, h1, k _ _ h2, h3⟩
theorem TD.dp {K : PySem.W.Frag} {H : Hp} {v : V} {d : PyData} (x : TD v d) : Dp K H v d := by
  cases x with
  | non => exact .non
  | int i _ => exact .int i
  | str y _ _ _ => exact .str y
theorem TDs.dp {K : PySem.W.Frag} {H : Hp} : ∀ {vs : List V} {ds : List PyData}, TDs vs ds → DpAll K H vs ds
  | _, _, .nil => .nil
  | _, _, .cons h r => .cons h.dp r.dp
theorem WhatOk.dp {K : PySem.W.Frag} {H : Hp} {v : V} {d : PyData} (x : WhatOk H v d) : Dp K H v d := by
  rcases x with x | ⟨a, xs, ds, rfl, h2, _, h4, rfl⟩
  · exact x.td.dp
  · exact .tup (SqT.of h2) h4.dp
theorem log2_small {i : Int} (h : i.natAbs ≤ 10 ^ 18) : i.natAbs.log2 < 1920 := PySem.Flt.log2_lt_of (k := 1920) (by decide) (Nat.lt_of_le_of_lt h (by decide +kernel))
theorem TD.facts {v : V} {d : PyData} (x : TD v d) : d.showable = true ∧ d.hasDict = false ∧ d.depth = 0 ∧ d.shown.length ≤ 100 ∧ d.canLay0 = true := by
  cases x with
  | non => exact ⟨rfl, rfl, rfl, by decide +kernel, rfl⟩
  | int i h =>
    refine ⟨decide_eq_true (log2_small h), rfl, rfl, ?_, rfl⟩
    have e := PySem.int_text_length_le10 (a := i) (k := 19) (by decide) (Nat.lt_of_le_of_lt h (by decide))
    show (Str.ofString (toString i)).length ≤ 100
    rw [ofString_length]
    omega
  | str y _ h o0 =>
    have o := Tx.let_ok o0
    refine ⟨rfl, rfl, rfl, ?_, by simpa [PyData.canLay0] using o⟩
    have oy : y.cps.all (· < 0x110000) = true := o
    rw [← Array.all_toList, List.all_eq_true] at oy
    have e := StrLaws.reprText_len y fun c hc => by
      have := of_decide_eq_true (oy c hc)
      omega
    show (reprText y).length ≤ 100
    omega
theorem TDs.facts : ∀ {vs : List V} {ds : List PyData}, TDs vs ds → PyData.showableAll ds = true ∧ PyData.hasDictAll ds = false ∧ PyData.depthAll ds = 0 ∧ ((PyData.shownAll ds).map (·.length)).sum ≤ 100 * vs.length ∧ (PyData.shownAll ds).length = vs.length ∧ PyData.canLayAll0 ds = true
  | _, _, .nil => ⟨rfl, rfl, rfl, Nat.zero_le _, rfl, rfl⟩
  | _, _, .cons h r => by
    obtain ⟨a1, a2, a3, a4, a5⟩ := h.facts
    obtain ⟨b1, b2, b3, b4, b6, b5⟩ := r.facts
    refine ⟨by simp [PyData.showableAll, a1, b1], by simp [PyData.hasDictAll, a2, b2], by simp [PyData.depthAll, a3, b3], ?_, ?_, by simp [PyData.canLayAll0, a5, b5]⟩
    · rw [PyData.shownAll, List.map_cons, List.sum_cons, List.length_cons]
      omega
    · rw [PyData.shownAll, List.length_cons, List.length_cons, b6]
theorem WhatOk.facts {H : Hp} {v : V} {d : PyData} (x : WhatOk H v d) : d.showable = true ∧ d.hasDict = false ∧ d.depth ≤ 60 ∧ d.shown.length ≤ sizeLine ∧ d.canLay0 = true := by
  rcases x with x | ⟨a, xs, ds, rfl, _, h3, h4, rfl⟩
  · obtain ⟨a1, a2, a3, a4, a5⟩ := x.td.facts
    exact ⟨a1, a2, by omega, by rw [sizeLine_eq]; omega, a5⟩
  · obtain ⟨b1, b2, b3, b4, b6, b5⟩ := h4.facts
    refine ⟨by simpa [PyData.showable] using b1, by simpa [PyData.hasDict] using b2, by simp [PyData.depth, b3], ?_, by simpa [PyData.canLay0] using b5⟩
    have e := PySem.tupleText_len_le (PyData.shownAll ds)
    show (tupleText (PyData.shownAll ds)).length ≤ sizeLine
    rw [sizeLine_eq]
    omega
theorem WhatOk.long {H : Hp} {v : V} {d : PyData} (x : WhatOk H v d) : d.shown.length ≤ 500 ∧ d.depth ≤ 1 := by
  rcases x with x | ⟨a, xs, ds, rfl, _, h3, h4, rfl⟩
  · obtain ⟨a1, a2, a3, a4, a5⟩ := x.td.facts
    exact ⟨by omega, by omega⟩
  · obtain ⟨b1, b2, b3, b4, b6, b5⟩ := h4.facts
    have e := PySem.tupleText_len_le (PyData.shownAll ds)
    refine ⟨?_, by simp [PyData.depth, b3]⟩
    show (tupleText (PyData.shownAll ds)).length ≤ 500
    omega
theorem TD.sd {v : V} {d : PyData} (x : TD v d) : Tx.At d := by
  cases x with
  | non => exact .non
  | int i _ => exact .int i
  | str y _ _ o => exact .str y o
theorem TDs.sd : ∀ {vs : List V} {ds : List PyData}, TDs vs ds → ∀ x ∈ ds, Tx.Sd 0 x
  | _, _, .cons h r, x, hx => by
    rcases List.mem_cons.mp hx with rfl | hx
    · exact h.sd
    · exact r.sd x hx
theorem WhatOk.sd {H : Hp} {v : V} {d : PyData} (x : WhatOk H v d) : Tx.Sd 1 d := by
  rcases x with x | ⟨a, xs, ds, rfl, _, h3, h4, rfl⟩
  · exact .inl x.td.sd
  · exact .inr ⟨ds, rfl, h4.sd⟩
theorem WhatOk.full {H : Hp} {v : V} {d : PyData} (x : WhatOk H v d) (hv : v ≠ .non) : d.shown ≠ nonR := fun h => by
  have e : d = .none := Tx.shown_inj x.sd (m := 0) .non h
  rcases x with x | ⟨a, xs, ds, _, _, _, _, h⟩
  · rw [e] at x
    cases x
    exact hv rfl
  · rw [e] at h
    cases h
theorem WhatOk.hard {H : Hp} {v : V} {d : PyData} (x : WhatOk H v d) (hv : v ≠ .non) : (∃ i, v = .int i) ∨ ∃ a, v = .ref a := by
  rcases x with x | ⟨a, xs, ds, h, _⟩
  · cases x with
    | non => exact absurd rfl hv
    | int i _ => exact .inl ⟨i, rfl⟩
  · exact .inr ⟨a, h⟩
theorem WhatOk.non {H : Hp} {d : PyData} (x : WhatOk H .non d) : d = .none := by
  rcases x with x | ⟨a, xs, ds, h, _⟩
  · cases x
    rfl
  · cases h
/-! ### paints in the heap -/
def endV (e : Int) : V := if e > 10 ^ 12 then .non else .int e
structure PtOk (H : Hp) (b : V) (p : Pt) : Prop where
  at_ : ∃ a, b = .ref a ∧ H a = some (.tup [.int p.lo, endV p.e, p.v])
  what : ∃ d, WhatOk H p.v d ∧ p.r = d.shown
  lo0 : 0 ≤ p.lo
  lt : p.lo < p.e
  top_ : p.e ≤ 10 ^ 12 + 1
theorem PtOk.keep {H H' : Hp} {b : V} {p : Pt} (x : PtOk H b p) (k : Keep H H') : PtOk H' b p := by
  obtain ⟨⟨a, h1, h2⟩, ⟨d, h3, h4⟩, h5, h6, h7⟩ := x
  exact ⟨⟨a, h1, k _ _ h2⟩, ⟨d, h3.keep k, h4⟩, h5, h6, h7⟩
abbrev Pts (H : Hp) : List V → List Pt → Prop := Paired (PtOk H)
theorem pts_keep {H H' : Hp} (k : Keep H H') : ∀ {bs : List V} {ps : List Pt}, Pts H bs ps → Pts H' bs ps
  | _, _, .nil => .nil
  | _, _, .cons h r => .cons (h.keep k) (pts_keep k r)
theorem pts_at {H : Hp} : ∀ {bs : List V} {ps : List Pt} {i : Nat} {b : V}, Pts H bs ps → bs[i]? = some b → ∃ p, ps[i]? = some p ∧ PtOk H b p
  | _, _, _, _, .nil, e => by simp at e
  | _, _, 0, _, .cons h _, e => by
    simp at e
    subst e
    exact ⟨_, rfl, h⟩
  | _, _, i + 1, b, .cons _ r, e => by
    obtain ⟨p, h1, h2⟩ := pts_at (i := i) r (by simpa using e)
    exact ⟨p, by simpa using h1, h2⟩
theorem pts_mem {H : Hp} : ∀ {bs : List V} {ps : List Pt}, Pts H bs ps → ∀ p ∈ ps, ∃ b, PtOk H b p
  | _, _, .cons h r, p, hp => by
    rcases List.mem_cons.mp hp with rfl | hp
    · exact ⟨_, h⟩
    · exact pts_mem r p hp
theorem pts_app {H : Hp} : ∀ {bs : List V} {ps : List Pt} {cs : List V} {qs : List Pt}, Pts H bs ps → Pts H cs qs → Pts H (bs ++ cs) (ps ++ qs)
  | _, _, _, _, .nil, s => s
  | _, _, _, _, .cons h r, s => .cons h (pts_app r s)
theorem pts_len {H : Hp} {bs : List V} {ps : List Pt} (h : Pts H bs ps) : bs.length = ps.length := Paired.length h
theorem pts_plain {H : Hp} {bs : List V} {ps : List Pt} (h : Pts H bs ps) : Plain ps := fun p hp hv => by
  obtain ⟨b, x⟩ := pts_mem h p hp
  obtain ⟨d, h1, h2⟩ := x.what
  rw [hv] at h1
  rw [h2, h1.non]
  rfl
theorem pts_solid {H : Hp} {bs : List V} {ps : List Pt} (h : Pts H bs ps) : Solid ps := fun p hp hv => by
  obtain ⟨b, x⟩ := pts_mem h p hp
  obtain ⟨d, h1, h2⟩ := x.what
  rw [h2]
  exact h1.full hv
/-! ### pieces as data, and their texts -/
def endD (e : Int) : PyData := if e > 10 ^ 12 then .none else .int e
def ptext (k : Int × Int × Str) : Str := tupleText [(PyData.int k.1).shown, (endD k.2.1).shown, k.2.2]
theorem endD_ok {K : PySem.W.Frag} {H : Hp} {e : Int} (h1 : e ≤ 10 ^ 12 + 1) (h0 : 0 ≤ e) : Dp K H (endV e) (endD e) ∧ TD (endV e) (endD e) := by
  unfold endV endD
  by_cases c : e > 10 ^ 12
  · rw [if_pos c, if_pos c]
    exact ⟨.non, .non⟩
  · rw [if_neg c, if_neg c]
    exact ⟨.int e, .int e (by omega)⟩
/-- a line as data -/
structure LineD (ds : List PyData) (ks : List (Int × Int × Str)) : Prop where
  text : PyData.shownAll ds = ks.map ptext
  show_ : PyData.showableAll ds = true
  dict : PyData.hasDictAll ds = false
  deep : PyData.depthAll ds ≤ 2
  sd : ∀ x ∈ ds, Tx.Sd 2 x
  long : ((PyData.shownAll ds).map (·.length)).sum ≤ 1000 * ds.length
  many : ds.length = ks.length
theorem shownAll_len : ∀ ds : List PyData, (PyData.shownAll ds).length = ds.length
  | [] => rfl
  | x :: r => by rw [PyData.shownAll, List.length_cons, List.length_cons, shownAll_len r]
theorem pts_data {K : PySem.W.Frag} {H : Hp} : ∀ {bs : List V} {ps : List Pt}, Pts H bs ps → ∃ ds, DpAll K H bs ds ∧ LineD ds (ps.map key)
  | _, _, .nil => ⟨[], .nil, ⟨rfl, rfl, rfl, Nat.zero_le _, fun x hx => (nomatch hx), Nat.zero_le _, rfl⟩⟩
  | _, _, .cons (b := p) h r => by
    obtain ⟨ds, h1, h2⟩ := pts_data (K := K) r
    obtain ⟨a, rfl, ha⟩ := h.at_
    obtain ⟨d, hd, hr⟩ := h.what
    obtain ⟨f1, f2, f3, f4, f5⟩ := hd.facts
    obtain ⟨l1, l2⟩ := hd.long
    have lo0 := h.lo0
    have lt := h.lt
    have top_ := h.top_
    obtain ⟨e1, e2⟩ := endD_ok (K := K) (H := H) top_ (by omega)
    obtain ⟨g1, g2, g3, g4, g5⟩ := e2.facts
    have tl : TD (.int p.lo) (.int p.lo) := .int p.lo (by omega)
    obtain ⟨i1, i2, i3, i4, i5⟩ := tl.facts
    refine ⟨.tuple [.int p.lo, endD p.e, d] :: ds, .cons (.tup (SqT.of ha) (.cons (.int p.lo) (.cons e1 (.cons hd.dp .nil)))) h1, ⟨?_, ?_, ?_, ?_, ?_, ?_, ?_⟩⟩
    · rw [PyData.shownAll, h2.text, List.map_cons, List.map_cons]
      show tupleText [(PyData.int p.lo).shown, (endD p.e).shown, d.shown] :: _ = ptext (p.lo, p.e, p.r) :: _
      rw [hr]
      rfl
    · simp [PyData.showableAll, PyData.showable, g1, f1, h2.show_]
      simpa [PyData.showable] using i1
    · simp [PyData.hasDictAll, PyData.hasDict, g2, f2, h2.dict]
    · have := h2.deep
      simp only [PyData.depthAll, PyData.depth, g3]
      omega
    · intro x hx
      rcases List.mem_cons.mp hx with rfl | hx
      · refine .inr ⟨_, rfl, fun y hy => ?_⟩
        simp only [List.mem_cons, List.mem_nil_iff, or_false] at hy
        rcases hy with rfl | rfl | rfl
        · exact .inl (.int _)
        · exact .inl e2.sd
        · exact hd.sd
      · exact h2.sd x hx
    · rw [PyData.shownAll, List.map_cons, List.sum_cons, List.length_cons]
      have e := PySem.tupleText_len_le [(PyData.int p.lo).shown, (endD p.e).shown, d.shown]
      have := h2.long
      have e' : (PyData.tuple [.int p.lo, endD p.e, d]).shown.length ≤ ([(PyData.int p.lo).shown, (endD p.e).shown, d.shown].map (·.length)).sum + 2 * 3 + 3 := e
      simp only [List.map_cons, List.map_nil, List.sum_cons, List.sum_nil] at e'
      omega
    · rw [List.length_cons, h2.many, List.map_cons, List.length_cons]
/-- the line's own text -/
theorem LineD.facts {ds : List PyData} {ks : List (Int × Int × Str)} (h : LineD ds ks) (hl : ks.length ≤ 10000) : (PyData.tuple ds).showable = true ∧ (PyData.tuple ds).hasDict = false ∧ (PyData.tuple ds).depth ≤ 60 ∧ (PyData.tuple ds).shown.length ≤ sizeLine ∧ (PyData.tuple ds).shown = tupleText (ks.map ptext) := by
  refine ⟨by simpa [PyData.showable] using h.show_, by simpa [PyData.hasDict] using h.dict, ?_, ?_, ?_⟩
  · have := h.deep
    simp only [PyData.depth]
    omega
  · have e := PySem.tupleText_len_le (PyData.shownAll ds)
    have e1 := h.long
    have e2 := h.many
    have e3 := shownAll_len ds
    show (tupleText (PyData.shownAll ds)).length ≤ sizeLine
    rw [sizeLine_eq]
    omega
  · show tupleText (PyData.shownAll ds) = _
    rw [h.text]
theorem LineD.lay {ds : List PyData} {ks : List (Int × Int × Str)} (h : LineD ds ks) : Tx.Sd 3 (.tuple ds) := .inr ⟨ds, rfl, h.sd⟩
theorem endV_cov {e d : Int} (hd : d ≤ 10 ^ 12) : (endV e = .non ∧ d < e) ∨ (endV e = .int e ∧ ¬ e > 10 ^ 12) := by
  unfold endV
  by_cases h : e > 10 ^ 12
  · rw [if_pos h]
    exact .inl ⟨rfl, by omega⟩
  · rw [if_neg h]
    exact .inr ⟨rfl, h⟩
end Ln
/-! pieces between ends, the last one without an end -/
namespace Ln
open PySem L2
theorem layStep_congr {a b acc : List Pt} {x y : Int} (h1 : atV a x = atV b x) (h2 : atR a x = atR b x) : layStep a acc x y = layStep b acc x y := by
  unfold layStep
  rw [h1, h2]
theorem lay_congr {a b : List Pt} (h1 : ∀ d, atV a d = atV b d) (h2 : ∀ d, atR a d = atR b d) : ∀ (ds : List Int) (acc : List Pt), lay a ds acc = lay b ds acc
  | [], _ => rfl
  | [_], _ => rfl
  | x :: y :: r, acc => by
    show lay a (y :: r) (layStep a acc x y) = lay b (y :: r) (layStep b acc x y)
    rw [layStep_congr (h1 x) (h2 x), lay_congr h1 h2 (y :: r)]
theorem dummy {ps : List Pt} {l e : Int} (d : Int) : atV (⟨l, e, .non, nonR⟩ :: ps) d = atV ps d ∧ atR (⟨l, e, .non, nonR⟩ :: ps) d = atR ps d := by
  unfold atV atR lastAt
  rw [List.reverse_cons, List.find?_append]
  cases h : ps.reverse.find? fun p => cov p d with
  | some q => exact ⟨rfl, rfl⟩
  | none =>
    rw [Option.none_or]
    by_cases hc : cov ⟨l, e, .non, nonR⟩ d = true
    · rw [show List.find? (fun p => cov p d) [(⟨l, e, .non, nonR⟩ : Pt)] = some ⟨l, e, .non, nonR⟩ by simp [List.find?, hc]]
      exact ⟨rfl, rfl⟩
    · rw [show List.find? (fun p => cov p d) [(⟨l, e, .non, nonR⟩ : Pt)] = none by simp [List.find?, hc]]
      exact ⟨rfl, rfl⟩
theorem lay_far {ps : List Pt} {ds : List Int} (hp : Plain ps) (hso : Solid ps) (hlt : ∀ p ∈ ps, p.lo < p.e) (htop : ∀ p ∈ ps, p.e ≤ 10 ^ 12 + 1) (hs : ds.Pairwise (· < ·)) (hm : ∀ x, x ∈ ds ↔ ∃ p ∈ ps, x = p.lo ∨ (x = p.e ∧ p.e ≤ 10 ^ 12)) :
    Can (lay ps (ds ++ [10 ^ 12 + 1]) []) ∧ ∀ d, textAt (lay ps (ds ++ [10 ^ 12 + 1]) []) d = atR ps d := by
  cases ps with
  | nil =>
    have e : ds = [] := by
      cases ds with
      | nil => rfl
      | cons x r =>
        obtain ⟨p, hp, _⟩ := (hm x).mp (List.mem_cons_self ..)
        cases hp
    rw [e]
    exact ⟨⟨trivial, trivial, fun x hx => (nomatch hx)⟩, fun d => rfl⟩
  | cons p r =>
    have lc := lay_congr (a := p :: r) (b := ⟨p.lo, 10 ^ 12 + 1, .non, nonR⟩ :: p :: r) (fun d => (dummy d).1.symm) (fun d => (dummy d).2.symm) (ds ++ [10 ^ 12 + 1]) []
    have pl : Plain (⟨p.lo, 10 ^ 12 + 1, .non, nonR⟩ :: p :: r) := fun x hx hv => by
      rcases List.mem_cons.mp hx with z | z
      · rw [z]
      · exact hp x z hv
    have so : Solid (⟨p.lo, 10 ^ 12 + 1, .non, nonR⟩ :: p :: r) := fun x hx hv => by
      rcases List.mem_cons.mp hx with z | z
      · rw [z] at hv
        exact absurd rfl hv
      · exact hso x z hv
    have lt : ∀ x ∈ (⟨p.lo, 10 ^ 12 + 1, .non, nonR⟩ :: p :: r : List Pt), x.lo < x.e := fun x hx => by
      rcases List.mem_cons.mp hx with z | z
      · have h1 := hlt p (List.mem_cons_self ..)
        have h2 := htop p (List.mem_cons_self ..)
        rw [z]
        show p.lo < 10 ^ 12 + 1
        omega
      · exact hlt x z
    have low : ∀ x ∈ ds, x ≤ 10 ^ 12 := fun x hx => by
      obtain ⟨y, hy, h⟩ := (hm x).mp hx
      have h1 := hlt y hy
      have h2 := htop y hy
      omega
    have hs' : (ds ++ [10 ^ 12 + 1]).Pairwise (· < ·) := List.pairwise_append.mpr ⟨hs, List.pairwise_singleton .., fun a ha b hb => by
      rw [List.mem_singleton.mp hb]
      have := low a ha
      omega⟩
    have hm' : ∀ x, x ∈ ds ++ [10 ^ 12 + 1] ↔ ∃ q ∈ (⟨p.lo, 10 ^ 12 + 1, .non, nonR⟩ :: p :: r : List Pt), x = q.lo ∨ x = q.e := fun x => by
      constructor
      · intro hx
        rcases List.mem_append.mp hx with h | h
        · obtain ⟨y, hy, h⟩ := (hm x).mp h
          exact ⟨y, List.mem_cons_of_mem _ hy, h.imp id And.left⟩
        · exact ⟨_, List.mem_cons_self .., .inr (List.mem_singleton.mp h)⟩
      · rintro ⟨q, hq, h⟩
        rcases List.mem_cons.mp hq with z | z
        · rw [z] at h
          rcases h with h | h
          · exact List.mem_append.mpr (.inl ((hm x).mpr ⟨p, List.mem_cons_self .., .inl h⟩))
          · exact List.mem_append.mpr (.inr (List.mem_singleton.mpr h))
        · rcases h with h | h
          · exact List.mem_append.mpr (.inl ((hm x).mpr ⟨q, z, .inl h⟩))
          · by_cases c : q.e ≤ 10 ^ 12
            · exact List.mem_append.mpr (.inl ((hm x).mpr ⟨q, z, .inr ⟨h, c⟩⟩))
            · have := htop q z
              refine List.mem_append.mpr (.inr (List.mem_singleton.mpr ?_))
              omega
    rw [lc]
    exact ⟨lay_can pl so lt hs' hm', fun d => by rw [(lay_all pl lt hs' hm').2.1 d, (dummy d).2]⟩
end Ln
/-! what the laying asks, for the urn's laws -/
namespace Ln
open PySem L2
theorem take_more {α β : Type} {l : List α} {i : Nat} {x : α} (g : α → β) (h : l[i]? = some x) : (l.take (i + 1)).map g = (l.take i).map g ++ [g x] := by
  rw [List.take_add_one, h, List.map_append]
  rfl
theorem cut_one (xs : List V) : cutV xs (some 1) none = xs.drop 1 := by
  unfold cutV
  rw [show HT.sIx xs.length 0 (some 1) = min 1 xs.length from HT.sIx_nat xs.length 0 1, HT.sIx_none]
  cases xs with
  | nil => rfl
  | cons x r =>
    have e : min 1 (x :: r).length = 1 := by
      rw [List.length_cons]
      omega
    rw [e]
    exact List.take_of_length_le (by rw [List.length_drop]; omega)
theorem lay_go {ps acc : List Pt} {ds : List Int} {i : Nat} {a b : Int} (ha : ds[i]? = some a) (hb : ds[i + 1]? = some b) : lay ps (ds.drop i) acc = lay ps (ds.drop (i + 1)) (layStep ps acc a b) := by
  obtain ⟨la, rfl⟩ := List.getElem?_eq_some_iff.mp ha
  obtain ⟨lb, rfl⟩ := List.getElem?_eq_some_iff.mp hb
  rw [List.drop_eq_getElem_cons la, List.drop_eq_getElem_cons lb]
  rfl
theorem lay_end {ps acc : List Pt} {ds : List Int} {i : Nat} (h : ds.length ≤ i + 1) : lay ps (ds.drop i) acc = acc := by
  have l : (ds.drop i).length ≤ 1 := by
    rw [List.length_drop]
    omega
  match hz : ds.drop i, l with
  | [], _ => rfl
  | [_], _ => rfl
theorem pts_dp {K : PySem.W.Frag} {H : Hp} : ∀ {bs : List V} {ps : List Pt}, Pts H bs ps → ∃ ds, DpAll K H bs ds ∧ PyData.canLayAll0 ds = true ∧ PyData.depthAll ds ≤ 62 ∧ ds.length = bs.length
  | _, _, .nil => ⟨[], .nil, rfl, Nat.zero_le _, rfl⟩
  | _, _, .cons (b := p) h r => by
    obtain ⟨ds, h1, h2, h3, h4⟩ := pts_dp r
    obtain ⟨a, rfl, ha⟩ := h.at_
    obtain ⟨d, hd, _⟩ := h.what
    obtain ⟨_, _, f3, _, f5⟩ := hd.facts
    have ev : ∃ ed, Dp K H (endV p.e) ed ∧ ed.canLay0 = true ∧ ed.depth = 0 := by
      unfold endV
      by_cases c : p.e > 10 ^ 12
      · rw [if_pos c]
        exact ⟨.none, .non, rfl, rfl⟩
      · rw [if_neg c]
        exact ⟨.int p.e, .int p.e, rfl, rfl⟩
    obtain ⟨ed, e1, e2, e3⟩ := ev
    refine ⟨.tuple [.int p.lo, ed, d] :: ds, .cons (.tup (SqT.of ha) (.cons (.int p.lo) (.cons e1 (.cons hd.dp .nil)))) h1, ?_, ?_, by rw [List.length_cons, List.length_cons, h4]⟩
    · simp [PyData.canLayAll0, PyData.canLay0, e2, f5, h2]
    · simp only [PyData.depthAll, PyData.depth, e3]
      omega
theorem pts_snoc {H : Hp} : ∀ {cs : List V} {qs : List Pt} {q : Pt}, Pts H cs (qs ++ [q]) → ∃ cs0 c, cs = cs0 ++ [c] ∧ Pts H cs0 qs ∧ PtOk H c q
  | _, [], _, .cons h .nil => ⟨[], _, rfl, .nil, h⟩
  | _, _ :: qs, q, .cons h r => by
    obtain ⟨cs0, c, rfl, h1, h2⟩ := pts_snoc (qs := qs) r
    exact ⟨_ :: cs0, c, rfl, .cons h h1, h2⟩
theorem ls_merge {ps rest : List Pt} {q : Pt} {a b : Int} (h1 : q.e = a) (h2 : q.r = atR ps a) : layStep ps (q :: rest) a b = if atV ps a = .non then rest else ⟨q.lo, b, atV ps a, atR ps a⟩ :: rest := by
  unfold layStep
  rw [if_pos (show ((q :: rest).head?.any fun q => decide (q.e = a) && decide (q.r = atR ps a)) = true by simp [h1, h2])]
  rfl
theorem ls_plain {ps acc : List Pt} {a b : Int} (h : ∀ q rest, acc = q :: rest → ¬ (q.e = a ∧ q.r = atR ps a)) : layStep ps acc a b = if atV ps a = .non then acc else ⟨a, b, atV ps a, atR ps a⟩ :: acc := by
  unfold layStep
  cases acc with
  | nil => rfl
  | cons q rest =>
    rw [if_neg]
    intro z
    have z' : (decide (q.e = a) && decide (q.r = atR ps a)) = true := z
    rw [Bool.and_eq_true, decide_eq_true_eq, decide_eq_true_eq] at z'
    exact h q rest rfl z'
end Ln
/-! enumerate of a tuple: an iterator of the hand layer -/
namespace EnT
open PySem PySem.Spec PyProof.Rows L2
def ItT (K : PySem.W.Frag) (a : Addr) : It where
  go := fun n G => ∃ (zs : List V) (z : V), SqT K G a zs ∧ zs[n]? = some z
  yld := fun n G y G' => ∃ T z, y = .ref T ∧ G T = none ∧ G' = upd G T (.tup [.int (n : Nat), z]) ∧ ∀ zs, SqT K G a zs → zs[n]? = some z
  stop := fun n G => ∃ zs : List V, SqT K G a zs ∧ zs.length = n
theorem new1 {v : Value} {ob : Obj} {S : Heap → Prop} (B : Begins v ob S) :
    Meets (Builtin.«enumerate.__new__» ⟨[.type "enumerate", v], []⟩) (fun _ R σ => S σ.heap ∧
      R (.ok (.ret (.ref (σ.heap.push ob).objs.size))) { σ with heap := (σ.heap.push ob).push { cls := .type "enumerate", data := .fields #[.none, .bool false, .ref σ.heap.objs.size, rawInt 0, .none, .none] } }) :=
  .of_wp fun pr wo A R σ g => by
    obtain ⟨hp, gl, dd, tk, os⟩ := σ
    obtain ⟨g1, g2⟩ := g
    have hsub := sub_enumerate
    have go : ∀ {A' : Around} {E : Value → Shared → Prop} {Q : Value → Shared → Prop}, Q (.ref hp.objs.size) ⟨hp.push ob, gl, dd, tk, os⟩ → wpAny (model pr wo) A' (pyIter v) Q E ⟨hp, gl, dd, tk, os⟩ :=
      fun z => B.iter pr wo _ _ ⟨hp, gl, dd, tk, os⟩ _ g1 z
    wp_walk using go
    refine wpAny_stack_any fun zz => wpAny_pure ?_
    split
    · rename_i cc _ _ _ _ _
      cases (cc == Value.type "enumerate") <;> (wp_walk using go; exact ⟨_, rfl, g2⟩)
    · wp_walk using go
      exact ⟨_, rfl, g2⟩
theorem begins1 {pr : Program} {wo : World} {A : Around} {E : Value → Shared → Prop} {σ : Shared} {v : Value} {ob : Obj} {S : Heap → Prop} {Q : Value → Shared → Prop} (B : Begins v ob S) (g1 : S σ.heap)
    (g : ∀ h', IsEnum h' (σ.heap.objs.size + 1) σ.heap.objs.size 0 .none → h'.get? σ.heap.objs.size = some ob → (∀ b o, σ.heap.get? b = some o → h'.get? b = some o) → Q (.ref (σ.heap.objs.size + 1)) { σ with heap := h' }) :
    wpAny (model pr wo) A (call (.type "enumerate") [v]) Q E σ := by
  refine callType_new F.called_enumerate (by decide) (F.typeCall_enumerate_1 _) (F.newCall_enumerate_1 _) (fun x => F.args_object_init_2 x _) F.entry_enumerate_new (new1 B) ⟨g1, ?_⟩
  have sz : (σ.heap.push ob).objs.size = σ.heap.objs.size + 1 := Heap.size_push ..
  show _ ∧ _
  rw [sz]
  have en := Heap.get?_push_size (σ.heap.push ob) (o := { cls := .type "enumerate", data := .fields #[.none, .bool false, .ref σ.heap.objs.size, rawInt 0, .none, .none] }) rfl
  rw [sz] at en
  exact ⟨⟨_, en, rfl⟩, g _ en (Heap.get?_push_of_some _ (Heap.get?_push_size _ B.free)) fun b o z => Heap.get?_push_of_some _ (Heap.get?_push_of_some _ z)⟩
theorem two {b c d : Addr} {P : Addr → Prop} (hb : b ∈ [c, d]) (h1 : P c) (h2 : P d) : P b := by
  rcases List.mem_cons.mp hb with z | z
  · exact z ▸ h1
  · rw [List.mem_singleton.mp z]
    exact h2
theorem turnT {pr : Program} {wo : World} {K : PySem.W.Frag} {elts : List Expr} {kk : Nat} {tp : Pos} (a en it : Addr) (n1 : en ≠ it) (n2 : a ≠ it) (n3 : a ≠ en) :
    Turn pr wo K (.Tuple elts kk tp) (ItT K a) [en, it] en (fun n h => (∃ old, IsEnum h en it ((n : Nat) : Int) old) ∧ h.IsTupleIter it a n) where
  mem := by simp
  obj := fun n h st b hb => by
    obtain ⟨⟨old, e1⟩, ⟨o, e2, _, e3⟩⟩ := st
    exact two (P := fun b => ∃ o, h.get? b = some o ∧ ∀ v, o.data ≠ Data.cell v) hb ⟨_, e1, fun v z => nomatch z⟩ ⟨o, e2, fun v z => by rw [e3] at z; cases z⟩
  keep := fun n h h' st k => ⟨⟨_, k en (by simp) _ st.1.choose_spec⟩, st.2.at fun o z => k it (by simp) o z⟩
  item := by
    intro X hP hw hK hc n pins s σ H E I hf st hg
    subst hP hw hK
    obtain ⟨⟨old, e1⟩, e2⟩ := st
    obtain ⟨zs, z, hq, hz⟩ := hg
    obtain ⟨its, rv, tu, _⟩ := I.tuple hq
    obtain ⟨u, hu, ru⟩ := rv.get hz
    have l1 : en < s.heap.objs.size := Heap.lt_size e1
    have l2 : it < s.heap.objs.size := by obtain ⟨_, g, _⟩ := e2; exact Heap.lt_size g
    have hn : n < its.toArray.size := by
      have := (List.getElem?_eq_some_iff.mp hu).1
      simpa using this
    refine wpAny_pyNext_enum_itemD (Draws.tuple (A := X.A.in1) (I.ok.hd hc) it a n2 its.toArray) e1 ⟨e2, tu⟩ hn n1 (by simp [n1, Ne.symm n3]) fun x h' tk hx ho hst hT hsz hk => ?_
    have xu : x = u := by
      rw [show its.toArray[n]? = some u by simpa using hu] at hx
      exact (Option.some.inj hx).symm
    subst xu
    refine ⟨_, rfl, wpAny_letOwnedTupleGo_enum (s := { s with heap := h', toks := tk + 1 }) ho fun h2 ee sb => ?_⟩
    have hT2 : h2.get? s.heap.objs.size = some { cls := .type "tuple", data := .seq #[.int n tk, x] } := (sb.2 _ (Nat.ne_of_gt l1)).trans hT
    have fresh_ : ObjOk X.prog X.w (upd H s.heap.objs.size (.tup [.int (n : Nat), z])) h2 s.heap.objs.size (.tup [.int (n : Nat), z]) :=
      ⟨by show 2 ≤ sizeLine; decide, [.int n tk, x], .cons ⟨_, rfl⟩ (.cons ru .nil), ⟨_, hT2, rfl, _, rfl⟩⟩
    have J : Inv X pins σ (upd H s.heap.objs.size (.tup [.int (n : Nat), z])) { s with heap := h2, toks := tk + 1 } :=
      I.turnedNew (ch := [en, it]) (fun b ob hb y => (sb.2 b (fun c => hb (by simp [c]))).trans (hk b ob (fun c => hb (by simp [c])) (fun c => hb (by simp [c])) y)) hf (Nat.le_refl _) fresh_
    refine ⟨.ref s.heap.objs.size, _, J, rfl, ⟨_, z, rfl, I.hok.fresh (Nat.le_refl _), rfl, fun ys hy => by rw [I.tuple_inj hy hq]; exact hz⟩, ⟨⟨x, ?_⟩, hst.1.at fun o g => (sb.2 it (Ne.symm n1)).trans g⟩, fun b hb => ?_⟩
    · rw [show ((n + 1 : Nat) : Int) = (n : Int) + 1 by omega]
      exact ee
    · rw [upd_ne (Nat.ne_of_lt (two (P := fun c => c < s.heap.objs.size) hb l1 l2))]
      exact (hf b hb).1
  done := by
    intro X hP hw hK hc n pins s σ H E I hf st hg
    subst hP hw hK
    obtain ⟨⟨old, e1⟩, e2⟩ := st
    obtain ⟨zs, hq, hz⟩ := hg
    obtain ⟨its, rv, tu, _⟩ := I.tuple hq
    obtain ⟨f0, f1, f2, f3, f4, f5⟩ := hf it (by simp)
    have l1 : its.toArray.size = n := by
      have := rv.length
      simp
      omega
    refine wpAny_pyNext_enum_endD (n := its.toArray.size) (Draws.tuple (A := X.A.in1) (I.ok.hd hc) it a n2 its.toArray) e1 ⟨by rw [l1]; exact e2, tu⟩ fun h' eb => ⟨rfl, I.turned (t' := s.toks) (fun b o hb g => eb b o hb g) f0 f1 f3 f4 f5⟩
  self := fun A n s Q E st h => wpAny_pyIter_enum st.1.choose_spec h
def iEnT (K : PySem.W.Frag) (ta : TA) : TI := fun σ H R => ta σ H fun vs H1 => ∃ a zs, vs = [.ref a] ∧ SqT K H1 a zs ∧ R (ItT K a) H1
theorem pi_enT {X : Cx} {x : Expr} {ta : TA} {p q r : Pos} {elts : List Expr} {kk : Nat} (hg : Gl X "enumerate") (hm : X.mg "enumerate" = none) (ha : PA X [x] ta) (hs : starEach [x] X.env = [(false, eval x X.env)] := by rfl) :
    PI X (.Tuple elts kk r) (.Call (.Name "enumerate" p) [x] [] q) (iEnT X.K ta) := by
  refine ⟨fun pins s σ H R I h => ?_⟩
  refine Call_ (ld_blt I hg hm boot_enumerate (PyProof.Rows.callWith_type1 (thn (ha.run q pins s σ H _ I h) fun us s1 ⟨vs, H1, I1, r1, q1⟩ => ?_) hs rfl))
  obtain ⟨a, zs, rfl, hq, q1⟩ := q1
  cases r1 with
  | cons u rr =>
    cases rr
    cases u
    obtain ⟨its, rv, tu, _⟩ := I1.tuple hq
    have la : a < s1.heap.objs.size := by obtain ⟨o, g, _⟩ := id tu; exact Heap.lt_size g
    refine begins1 (begins_tuple a its.toArray) tu fun h' e1 e2 hk => wpAny_pyIter_enum e1 ?_
    have J : Inv X pins σ H1 { s1 with heap := h' } := I1.kept (t' := s1.toks) hk
    refine ⟨s1.heap.objs.size + 1, [s1.heap.objs.size + 1, s1.heap.objs.size], _, _, H1, rfl, J, turnT a (s1.heap.objs.size + 1) s1.heap.objs.size (Nat.succ_ne_self _) (Nat.ne_of_lt la) (Nat.ne_of_lt (Nat.lt_succ_of_lt la)), ⟨⟨.none, e1⟩, ⟨_, e2, rfl, rfl⟩⟩, fun b hb => ?_, q1⟩
    have le : s1.heap.objs.size ≤ b := two (P := fun c => s1.heap.objs.size ≤ c) hb (Nat.le_succ _) (Nat.le_refl _)
    exact I1.fpOk le (I1.hok.fresh le)
theorem walk_enT {K : PySem.W.Frag} {a : Addr} {xs : List V} : Walk (ItT K a) xs.length (fun H => SqT K H a xs) (YPair (fun i => some (.int (i : Nat))) (fun i => xs[i]?)) where
  goes := fun i H hi h => ⟨xs, xs[i], h, List.getElem?_eq_getElem hi⟩
  stops := fun H h => ⟨xs, h, rfl⟩
  yields := fun i H x H' hi h y => by
    obtain ⟨T, z, e1, e2, e3, e4⟩ := y
    exact ⟨T, _, z, e1, e2, e3, rfl, e4 xs h⟩
end EnT
/-! sorted of pairs of texts: a list of them, a dict with them as keys -/
namespace Sp2
open PySem PySem.Spec PyProof.Rows L2 PySem.W
def PairAt (H : Hp) (v : V) (p : Str × Str) : Prop := ∃ b, v = .ref b ∧ H b = some (.tup [.str p.1, .str p.2])
def encP (p : Str × Str) : PyData := .tuple [.str p.1, .str p.2]
noncomputable def leP : Str × Str → Str × Str → Bool := dataLe false encP
theorem leP_total : TotalLe leP := by
  unfold leP dataLe
  exact sortLe_total _ _ _
theorem pair_depth (p : Str × Str) : (encP p).depth = 1 := by simp [encP, PyData.depth, PyData.depthAll]
theorem pair_alike (p q : Str × Str) : alike (encP p) (encP q) = true := by simp [encP, alike, alikeAll]
section
variable {X : Cx} {pins : List (Addr × Obj)} {σ : L2.St} {H : Hp} {s : Shared}
theorem pair_reads (I : Inv X pins σ H s) {b : Addr} {p : Str × Str} (h : H b = some (.tup [.str p.1, .str p.2])) : ∃ as, Reads s.heap (.ref b) (encP p) as :=
  Dp.reads I (encP p) (.ref b) (.ref b) (.tup (SqT.of h) (.cons (.str _) (.cons (.str _) .nil))) rfl
theorem pairs_each (R : Value → Str × Str → Prop) (hR : ∀ b p, H b = some (.tup [.str p.1, .str p.2]) → R (.ref b) p) : ∀ {xs : List V} {us : List Value} {ps : List (Str × Str)}, Vals xs us → Paired (PairAt H) xs ps → EachIs R us ps
  | _, _, _, .nil, .nil => .nil
  | _, _, _, .cons r rr, .cons h hh => by
    obtain ⟨b, rfl, hb⟩ := h
    cases r
    exact .cons (hR b _ hb) (pairs_each R hR rr hh)
theorem each_pairs : ∀ {us : List Value} {ps : List (Str × Str)}, EachIs (fun u p => ∃ b, u = Value.ref b ∧ H b = some (.tup [.str p.1, .str p.2])) us ps → ∃ xs, Vals xs us ∧ Paired (PairAt H) xs ps
  | _, _, .nil => ⟨[], .nil, .nil⟩
  | _, _, .cons h hh => by
    obtain ⟨b, rfl, hb⟩ := h
    obtain ⟨xs, h1, h2⟩ := each_pairs hh
    exact ⟨.ref b :: xs, .cons rfl h1, .cons ⟨b, rfl, hb⟩ h2⟩
end
theorem pairedR {α β : Type} {R : α → β → Prop} : ∀ {xs : List α} {ys : List β} {i : Nat} {y : β}, Paired R xs ys → ys[i]? = some y → ∃ x, xs[i]? = some x ∧ R x y
  | _, _, 0, _, .cons a _, h => by
    cases h
    exact ⟨_, rfl, a⟩
  | _, _, i + 1, _, .cons _ r, h => pairedR (i := i) r h
  | _, _, _, _, .nil, h => by simp at h
theorem each_of {R : Value → Str × Str → Prop} : ∀ {us : List Value} {ps : List (Str × Str)}, us.length = ps.length → (∀ (j : Nat) u p, us[j]? = some u → ps[j]? = some p → R u p) → EachIs R us ps
  | [], [], _, _ => .nil
  | u :: us, p :: ps, hl, h => .cons (h 0 u p rfl rfl) (each_of (by simpa using hl) fun j u p e1 e2 => h (j + 1) u p (by simpa using e1) (by simpa using e2))
  | [], _ :: _, hl, _ => by simp at hl
  | _ :: _, [], hl, _ => by simp at hl
theorem all_as {h : Heap} {l : List Value} {a b : Str} {as : List Addr} (r : ReadsAll h l [.str a, .str b] as) : as = [] := by
  cases r with
  | cons r1 r2 =>
    cases r1
    cases r2 with
    | cons r3 r4 =>
      cases r3
      cases r4
      rfl
theorem pair_as {h : Heap} {u : Value} {p : Str × Str} {as : List Addr} (r : Reads h u (encP p) as) : as = [] := by
  unfold encP at r
  cases r with
  | tuple h1 h2 h3 h4 => exact all_as h4
def rSortP2 (K : PySem.W.Frag) : List V → Hp → VK → Prop := fun vs H Q => ∃ (a : Addr) (xs : List V) (ps : List (Str × Str)), vs = [.ref a] ∧ SqL K H a xs ∧ Paired (PairAt H) xs ps ∧
  ∀ (ys : List V) (p : Addr), Paired (PairAt H) ys (ps.mergeSort leP) → H p = none → Q (.ref p) (upd H p (.lst ys))
theorem cr_sortedP2 {X : Cx} (hu : X.A.units + 64 < cLine) : CallR X (.builtin "sorted") (rSortP2 X.K) := by
  intro pins s σ H vs us Q I r h
  obtain ⟨a, xs, ps, rfl, hs, hp, q⟩ := h
  obtain ⟨its, rv, hl, hz⟩ := I.list hs
  rw [Vals.ref1 r]
  have le : its.length = ps.length := by rw [← rv.length, Paired.length hp]
  refine sorted_data (enc := encP) (bs := ps) (R := fun u p => ∃ b, u = Value.ref b ∧ H b = some (.tup [.str p.1, .str p.2])) hl.isList (pairs_each _ (fun b p h => ⟨b, rfl, h⟩) rv hp) (pairs_each _ (fun b p h => pair_reads I h) rv hp) (AllAlike.of pair_alike) (Sortable.tuples fun b => ⟨_, _, rfl⟩) (by rw [← le, ← rv.length]; exact hz) (fun b _ => by rw [pair_depth]; omega) fun out h1 h2 => ?_
  obtain ⟨ys, k1, k2⟩ := each_pairs h2
  obtain ⟨ep, he⟩ := PyProof.Rows.sortedAll_at s.heap its out.toArray
  have hlen : ys.length ≤ sizeLine := by rw [k1.length, h1, ← le, ← rv.length]; exact hz
  exact ⟨.ref _, upd H (s.heap.objs.size + 1) (.lst ys), I.laid (t' := s.toks) (fun _ _ => PyProof.Rows.sortedAll_old) (Nat.le_succ _) ⟨hlen, out, ep, k1, he⟩, rfl, q _ _ k2 (I.hok.fresh (Nat.le_succ _))⟩
/-- a key that is a pair of texts -/
def keyP (p : Str × Str) : List Key := [.inr p.1, .inr p.2]
def rSortD2 : List V → Hp → VK → Prop := fun vs H Q => ∃ (a : Addr) (kvs : List (List Key × V)) (ps : List (Str × Str)), vs = [.ref a] ∧ H a = some (.dT kvs) ∧ kvs.map (·.1) = ps.map keyP ∧
  ∀ (ys : List V) (p : Addr), Paired (PairAt H) ys (ps.mergeSort leP) → H p = none → Q (.ref p) (upd H p (.lst ys))
theorem cr_sortedD2 {X : Cx} (hc : X.calm = true) (hu : X.A.units + 64 < cLine) : CallR X (.builtin "sorted") rSortD2 := by
  intro pins s σ H vs us Q I r h
  obtain ⟨a, kvs, ps, rfl, hd, hk, q⟩ := h
  rw [Vals.ref1 r]
  obtain ⟨z, lo, xs, kt, dd⟩ := dt_of I.hok hd
  obtain ⟨es, ep, raw, hsz, hes⟩ := dd.raw
  have lx : xs.length = kvs.length := (Paired.length kt).symm
  have lp : kvs.length = ps.length := by
    have := congrArg List.length hk
    rwa [List.length_map, List.length_map] at this
  refine Calls.call_function_entry PyProof.Rows.kind_sorted PyProof.Rows.plain_sorted PyProof.Rows.entry_sorted (PyProof.Rows.args_sorted1 _) ?_
  unfold Builtin.«sorted»
  refine wpAny_bind (m := checkCount "sorted" 1 1 _) (wpAny_pure ?_)
  refine wpAny_bind (kdu_collect (A := X.A.in1) (KdlSrc.rawDict (es := es) (ep := ep) lo) (I.ok.hd hc) raw (by rw [hsz, lx]; exact z) fun h' tk acc hkeep hacc => ?_)
  have J : Inv X pins σ H { s with heap := h', toks := tk } := I.kept hkeep
  have hal : acc.toList.length = ps.length := by rw [Array.length_toList, hacc.1, hsz, lx, lp]
  have each : ∀ (j : Nat) (u : Value), acc.toList[j]? = some u → ∃ (p : Str × Str) (b : Addr), ps[j]? = some p ∧ u = Value.ref b ∧ H b = some (.tup [.str p.1, .str p.2]) := fun j u e => by
    obtain ⟨hj, rfl⟩ := hacc.2 j u (by rw [← Array.getElem?_toList]; exact e)
    obtain ⟨y, hy, e1, _, _⟩ := hes j hj
    obtain ⟨kv, hkv, e2, e3, _⟩ := pairedR kt hy
    have e4 : (kvs.map (·.1))[j]? = some kv.1 := by rw [List.getElem?_map, hkv]; rfl
    rw [hk, List.getElem?_map] at e4
    obtain ⟨p, hp, e5⟩ := Option.map_eq_some_iff.mp e4
    rw [← e5] at e3
    exact ⟨p, y.2.1, hp, e1, e3⟩
  have J' : ∀ b o, h'.get? b = some o → (h'.push (seqObj "list" acc.toList.toArray 0)).get? b = some o := fun b o e => Heap.get?_push_of_some _ e
  refine wpAny_bind (wpAny_newList ?_ (by rw [hal, ← lp]; exact z))
  have hoL : (h'.push (seqObj "list" acc.toList.toArray 0)).get? h'.objs.size = some (seqObj "list" acc.toList.toArray 0) := Heap.get?_push_size _ rfl
  show wpAny _ _ _ _ _ { s with heap := h'.push (seqObj "list" acc.toList.toArray 0), toks := tk }
  refine wpAny_bind (wpAny_holding (list_sort_data (s := { s with heap := h'.push (seqObj "list" acc.toList.toArray 0), toks := tk }) (enc := encP) (bs := ps) (vs := acc.toList) (R := fun u p => ∃ b, u = Value.ref b ∧ H b = some (.tup [.str p.1, .str p.2])) hoL
    (each_of hal fun j u p e1 e2 => ?_) (each_of hal fun j u p e1 e2 => ?_) (AllAlike.of pair_alike) (Sortable.tuples fun b => ⟨_, _, rfl⟩) (by rw [← lp]; exact z) (fun b _ => by rw [pair_depth]; show X.A.units + 1 + 1 + 1 < cLine; omega) fun out h1 h2 => ?_))
  · obtain ⟨p', b, e3, e4, e5⟩ := each j u e1
    rw [e2] at e3
    cases e3
    exact ⟨b, e4, e5⟩
  · obtain ⟨p', b, e3, rfl, e5⟩ := each j u e1
    rw [e2] at e3
    cases e3
    obtain ⟨as, rd⟩ := pair_reads J e5
    refine ⟨as, PyProof.Rows.Reads.keeps J' rd, ?_⟩
    rw [pair_as rd]
    exact fun z => nomatch z
  · obtain ⟨ys, k1, k2⟩ := each_pairs h2
    obtain ⟨ep', he⟩ := PyProof.Rows.sortedHeap_at (vs := acc.toList) (out := out.toArray) hoL
    have hlen : ys.length ≤ sizeLine := by rw [k1.length, h1, ← lp]; exact z
    refine wpAny_pure ⟨_, rfl, .ref h'.objs.size, upd H h'.objs.size (.lst ys), J.laid (t' := tk) (fun b u e => ?_) (Nat.le_refl _) (show ObjOk X.prog X.w _ _ _ (.lst ys) from ⟨hlen, out, ep', k1, he⟩), rfl, q ys _ k2 (J.hok.fresh (Nat.le_refl _))⟩
    have hb : b < h'.objs.size := Heap.lt_size e
    rw [PyProof.Rows.sortedHeap_old (Nat.ne_of_lt hb) (by rw [Heap.size_push]; exact Nat.lt_succ_of_lt hb)]
    exact Heap.get?_push_of_some _ e
end Sp2
/-! two walks within one another; sorted pairs: a part of them -/
namespace Sp2
open PySem L2 PySem.W
/-- the inner walk of a comprehension of two, over any walk -/
theorem in_it {J : It} {n : Nat} {G : Hp → Prop} {Y : Nat → Hp → V → Hp → Prop} (w : Walk J n G Y) {g : TG} {tt : TT} {te : TE} {vs : List Nat} {σ : L2.St} {H0 : Hp} {D : Addr} {Nx : Hp → Prop} (P : Nat → Hp → Prop) (h0 : P 0 H0) (hG : ∀ j H, j ≤ n → P j H → G H)
    (hs : ∀ j x H H', j < n → P j H → Y j H x H' → g x (wipe σ vs) H' fun σ3 H5 => wipe σ3 vs = wipe σ vs ∧ tt σ3 H5 fun b H6 =>
      if b = true then te σ3 H6 fun y H7 => ∃ acc, H7 D = some (.lst acc) ∧ acc.length < sizeLine ∧ P (j + 1) (upd H7 D (.lst (acc ++ [y]))) else P (j + 1) H6) (hd : ∀ H, P n H → Nx H) :
    ∃ W1 : Nat → Nat → Hp → Prop, (∃ m, W1 0 m H0) ∧ ∀ j k H, W1 j k H →
      (J.stop j H ∧ Nx H) ∨ (J.go j H ∧ ∃ N1 : Hp → Prop, (∀ H', N1 H' → ∃ k', k' < k ∧ W1 (j + 1) k' H') ∧ ∀ x H', J.yld j H x H' → g x (wipe σ vs) H' fun σ3 H5 => wipe σ3 vs = wipe σ vs ∧ tt σ3 H5 fun b H6 =>
        if b = true then te σ3 H6 fun y H7 => ∃ acc, H7 D = some (.lst acc) ∧ acc.length < sizeLine ∧ N1 (upd H7 D (.lst (acc ++ [y]))) else N1 H6) := by
  refine ⟨fun j k H => k = n - j ∧ j ≤ n ∧ P j H, ⟨n, by simp, Nat.zero_le _, h0⟩, ?_⟩
  rintro j k H ⟨rfl, hj, p⟩
  have g0 := hG j H hj p
  by_cases lt : j < n
  · exact .inr ⟨w.goes j H lt g0, P (j + 1), fun H' p' => ⟨n - (j + 1), by omega, rfl, lt, p'⟩, fun x H' y => hs j x H H' lt p (w.yields j H x H' lt g0 y)⟩
  · obtain rfl : j = n := by omega
    exact .inl ⟨w.stops H g0, hd H p⟩
/-- the outer walk -/
theorem lc2_it {J : It} {n : Nat} {G : Hp → Prop} {Y : Nat → Hp → V → Hp → Prop} (w : Walk J n G Y) {g g1 : TG} {tt tt1 : TT} {wi1 : TI} {te : TE} {vs vs1 : List Nat} {σ : L2.St} {H1 : Hp} {D : Addr} {Qd : Hp → Prop} (P : Nat → Hp → Prop) (h0 : P 0 (upd H1 D (.lst []))) (hG : ∀ i H, i ≤ n → P i H → G H)
    (hs : ∀ i x H H', i < n → P i H → Y i H x H' → g x (wipe σ vs) H' fun σ2 H2 => wipe σ2 vs = wipe σ vs ∧ tt σ2 H2 fun b H3 =>
      if b = true then wi1 σ2 H3 fun J1 H4 => ∃ W1 : Nat → Nat → Hp → Prop, (∃ m, W1 0 m H4) ∧ ∀ j k H, W1 j k H →
        (J1.stop j H ∧ P (i + 1) H) ∨ (J1.go j H ∧ ∃ Nx1 : Hp → Prop, (∀ H', Nx1 H' → ∃ k', k' < k ∧ W1 (j + 1) k' H') ∧ ∀ x H', J1.yld j H x H' → g1 x (wipe σ2 vs1) H' fun σ3 H5 => wipe σ3 vs1 = wipe σ2 vs1 ∧ tt1 σ3 H5 fun b H6 =>
          if b = true then te σ3 H6 fun y H7 => ∃ acc, H7 D = some (.lst acc) ∧ acc.length < sizeLine ∧ Nx1 (upd H7 D (.lst (acc ++ [y]))) else Nx1 H6)
      else P (i + 1) H3) (hd : ∀ H, P n H → Qd H) :
    ∃ W : Nat → Nat → Hp → Prop, (∃ m, W 0 m (upd H1 D (.lst []))) ∧ ∀ i m H, W i m H →
      (J.stop i H ∧ Qd H) ∨ (J.go i H ∧ ∃ Nx : Hp → Prop, (∀ H', Nx H' → ∃ m', m' < m ∧ W (i + 1) m' H') ∧ ∀ x H', J.yld i H x H' → g x (wipe σ vs) H' fun σ2 H2 => wipe σ2 vs = wipe σ vs ∧ tt σ2 H2 fun b H3 =>
        if b = true then wi1 σ2 H3 fun J1 H4 => ∃ W1 : Nat → Nat → Hp → Prop, (∃ m, W1 0 m H4) ∧ ∀ j k H, W1 j k H →
          (J1.stop j H ∧ Nx H) ∨ (J1.go j H ∧ ∃ Nx1 : Hp → Prop, (∀ H', Nx1 H' → ∃ k', k' < k ∧ W1 (j + 1) k' H') ∧ ∀ x H', J1.yld j H x H' → g1 x (wipe σ2 vs1) H' fun σ3 H5 => wipe σ3 vs1 = wipe σ2 vs1 ∧ tt1 σ3 H5 fun b H6 =>
            if b = true then te σ3 H6 fun y H7 => ∃ acc, H7 D = some (.lst acc) ∧ acc.length < sizeLine ∧ Nx1 (upd H7 D (.lst (acc ++ [y]))) else Nx1 H6)
        else Nx H3) := by
  refine ⟨fun i m H => m = n - i ∧ i ≤ n ∧ P i H, ⟨n, by simp, Nat.zero_le _, h0⟩, ?_⟩
  rintro i m H ⟨rfl, hi, p⟩
  have g0 := hG i H hi p
  by_cases lt : i < n
  · exact .inr ⟨w.goes i H lt g0, P (i + 1), fun H' p' => ⟨n - (i + 1), by omega, rfl, lt, p'⟩, fun x H' y => hs i x H H' lt p (w.yields i H x H' lt g0 y)⟩
  · obtain rfl : i = n := by omega
    exact .inl ⟨w.stops H g0, hd H p⟩
theorem wipe_in {σ : L2.St} {j : Nat} : ∀ {vs : List Nat}, j ∈ vs → j < σ.length → (wipe σ vs)[j]? = some none
  | v :: vs, h, hl => by
    show ((wipe σ vs).set v none)[j]? = _
    by_cases e : v = j
    · subst e
      rw [List.getElem?_set, if_pos rfl, wipe_length, if_pos hl]
    · rw [List.getElem?_set_ne e]
      exact wipe_in ((List.mem_cons.mp h).resolve_left fun z => e z.symm) hl
theorem wipe_eq {σ τ : L2.St} {vs : List Nat} (hl : σ.length = τ.length) (h : ∀ j, j ∉ vs → σ[j]? = τ[j]?) : wipe σ vs = wipe τ vs := by
  refine List.ext_getElem? fun j => ?_
  by_cases c : j ∈ vs
  · by_cases l : j < σ.length
    · rw [wipe_in c l, wipe_in c (hl ▸ l)]
    · rw [List.getElem?_eq_none (by rw [wipe_length]; omega), List.getElem?_eq_none (by rw [wipe_length]; omega)]
  · rw [wipe_out c, wipe_out c]
    exact h j c
/-- five names set, and wiped again -/
theorem wipe_five (σ : L2.St) {i : Nat} {a b c d e : Option V} : wipe ((((((wipe σ [i, i + 1, i + 2, i + 3, i + 4]).set i a).set (i + 1) b).set (i + 2) c).set (i + 3) d).set (i + 4) e) [i, i + 1, i + 2, i + 3, i + 4] = wipe σ [i, i + 1, i + 2, i + 3, i + 4] := by
  refine wipe_eq (by simp only [List.length_set, wipe_length]) fun j hj => ?_
  simp only [List.mem_cons, List.mem_nil_iff, or_false, not_or] at hj
  rw [List.getElem?_set_ne (by omega), List.getElem?_set_ne (by omega), List.getElem?_set_ne (by omega), List.getElem?_set_ne (by omega), List.getElem?_set_ne (by omega)]
  exact wipe_out (by simp only [List.mem_cons, List.mem_nil_iff, or_false, not_or]; exact hj)
theorem str_ext {a b : Str} (h : a.cps.toList = b.cps.toList) : a = b := by
  cases a
  cases b
  simp at h
  rw [h]
theorem leP_anti {a b : Str × Str} (h1 : leP a b = true) (h2 : leP b a = true) : a = b := by
  unfold leP dataLe sortLe at h1 h2
  simp only [cond_false, Bool.not_eq_true'] at h1 h2
  have e := (PyProof.Rows.listOrd PyProof.Rows.itemOrd).total (keyToks (encP a)) (keyToks (encP b)) h2 h1
  simp only [encP, keyToks, keyToksAll, List.cons_append, List.nil_append, List.cons.injEq, Sum.inr.injEq, true_and, and_true] at e
  exact Prod.ext (str_ext e.1) (str_ext e.2)
theorem uniq_sorted : ∀ {a b : List (Str × Str)}, a.Pairwise (fun x y => leP x y = true) → b.Pairwise (fun x y => leP x y = true) → a.Nodup → b.Nodup → (∀ x, x ∈ a ↔ x ∈ b) → a = b
  | [], [], _, _, _, _, _ => rfl
  | [], y :: b, _, _, _, _, h => absurd ((h y).mpr (List.mem_cons_self ..)) (by simp)
  | x :: a, [], _, _, _, _, h => absurd ((h x).mp (List.mem_cons_self ..)) (by simp)
  | x :: a, y :: b, p, q, n, m, h => by
    rw [List.pairwise_cons] at p q
    rw [List.nodup_cons] at n m
    have e : x = y := by
      rcases List.mem_cons.mp ((h x).mp (List.mem_cons_self ..)) with z | z
      · exact z
      · rcases List.mem_cons.mp ((h y).mpr (List.mem_cons_self ..)) with w | w
        · exact w.symm
        · exact leP_anti (p.1 y w) (q.1 x z)
    subst e
    rw [uniq_sorted p.2 q.2 n.2 m.2 fun z => ?_]
    constructor
    · intro hz
      rcases List.mem_cons.mp ((h z).mp (List.mem_cons_of_mem _ hz)) with w | w
      · exact absurd (w ▸ hz) n.1
      · exact w
    · intro hz
      rcases List.mem_cons.mp ((h z).mpr (List.mem_cons_of_mem _ hz)) with w | w
      · exact absurd (w ▸ hz) m.1
      · exact w
/-- sorted, those of them that are also in ks: ks sorted -/
theorem sorted_sub {ks pl : List (Str × Str)} (hk : ks.Nodup) (hp : pl.Nodup) (h : ∀ k ∈ ks, k ∈ pl) : ks.mergeSort leP = (pl.mergeSort leP).filter fun p => decide (p ∈ ks) := by
  refine uniq_sorted (sort_pairwise leP_total ks) ((sort_pairwise leP_total pl).filter _) ((List.mergeSort_perm ks leP).nodup_iff.mpr hk) (((List.mergeSort_perm pl leP).nodup_iff.mpr hp).filter _) fun x => ?_
  rw [(List.mergeSort_perm ks leP).mem_iff, List.mem_filter, (List.mergeSort_perm pl leP).mem_iff, decide_eq_true_eq]
  exact ⟨fun z => ⟨h x z, z⟩, fun z => z.2⟩
end Sp2
/-! A tuple known to its object (so that it is known to bear no names), and dict() of such a tuple of pairs. -/
namespace L2
namespace Dc
open PySem PySem.Spec PyProof.Rows
/-- tuple(list), the new object known -/
def rTupF (K : PySem.W.Frag) : List V → Hp → VK → Prop := fun xs H Q => ∃ p ys, xs = [.ref p] ∧ SqL K H p ys ∧ ∀ (q : Addr) (o : Obj), H q = none → o.cls = .type "tuple" → o.dict = none → Q (.ref q) (upd H q (.frz o (.tup ys)))
def PrAt (H : Hp) (b : V) (kv : Key × V) : Prop := ∃ t, b = .ref t ∧ H t = some (.tup [kV kv.1, kv.2])
def rDictT : List V → Hp → VK → Prop := fun xs H Q => ∃ (a : Addr) (o : Obj) (bs : List V) (kvs : List (Key × V)), xs = [.ref a] ∧ H a = some (.frz o (.tup bs)) ∧ o.dict = none ∧ Paired (PrAt H) bs kvs ∧ kvs.length ≤ sizeLine ∧ ∀ p, H p = none → Q (.ref p) (upd H p (.dK (mergeK [] kvs)))
theorem tup_two {P : Program} {w : World} {H : Hp} {h : Heap} {t : Addr} {x y : V} (ok : HOk P w H h) (e : H t = some (.tup [x, y])) : ∃ u v, RelV x u ∧ RelV y v ∧ h.IsTuple t #[u, v] := by
  have g : [x, y].length ≤ sizeLine ∧ ∃ its : List Value, Vals [x, y] its ∧ IsTup h t its.toArray := ok t _ e
  obtain ⟨_, its, r, it⟩ := g
  cases r with
  | cons r1 r =>
    cases r with
    | cons r2 r =>
      cases r
      exact ⟨_, _, r1, r2, it⟩
theorem pairs_of {P : Program} {w : World} {H : Hp} {h : Heap} (ok : HOk P w H h) : ∀ {bs : List V} {kvs : List (Key × V)} {its : List Value}, Paired (PrAt H) bs kvs → Vals bs its →
    ∃ (tl : List Addr) (ps : List (Value × Value)) (vs : List (Key × Value)), its = tl.map Value.ref ∧ Paired (fun t (p : Value × Value) => h.IsTuple t #[p.1, p.2]) tl ps ∧ Paired (fun (p : Value × Value) (q : Key × Value) => (mixKind P w).is q.1 p.1 = true ∧ p.2 = q.2) ps vs ∧ KV kvs vs
  | _, _, _, .nil, .nil => ⟨[], [], [], rfl, .nil, .nil, .nil⟩
  | _, _, _, .cons (b := kv) ⟨t, e, ht⟩ r, .cons ru rr => by
    obtain ⟨tl, ps, vs, a1, a2, a3, a4⟩ := pairs_of ok r rr
    subst e
    obtain ⟨u, v, r1, r2, it⟩ := tup_two ok ht
    cases (show _ = Value.ref t from ru)
    exact ⟨t :: tl, (u, v) :: ps, (kv.1, v) :: vs, by rw [a1]; rfl, .cons it a2, .cons ⟨kV_is r1, rfl⟩ a3, .cons ⟨rfl, r2⟩ a4⟩
theorem paired_get {α β : Type} {R : α → β → Prop} : ∀ {xs : List α} {ys : List β}, Paired R xs ys → ∀ {j : Nat} {y : β}, ys[j]? = some y → ∃ x, xs[j]? = some x ∧ R x y
  | _, _, .cons h r, 0, y, e => by cases e; exact ⟨_, rfl, h⟩
  | _, _, .cons h r, j + 1, y, e => paired_get r (j := j) e
theorem paired_get' {α β : Type} {R : α → β → Prop} : ∀ {xs : List α} {ys : List β}, Paired R xs ys → ∀ {j : Nat} {x : α}, xs[j]? = some x → ∃ y, ys[j]? = some y ∧ R x y
  | _, _, .cons h r, 0, y, e => by cases e; exact ⟨_, rfl, h⟩
  | _, _, .cons h r, j + 1, y, e => paired_get' r (j := j) e
theorem call_dictT {X : Cx} (hc : X.calm = true) : CallR X (.type "dict") rDictT := by
  intro pins s σ H xs us Q I r h
  obtain ⟨a, o, bs, kvs, rfl, ha, hd, hp, hz, q⟩ := h
  obtain ⟨u, rfl, ru⟩ := vals1 r
  cases ru
  have g : s.heap.get? a = some o ∧ bs.length ≤ sizeLine ∧ ∃ its : List Value, Vals bs its ∧ IsTup s.heap a its.toArray := I.hok a _ ha
  obtain ⟨ho, z, its, rel, o', ho', hcl, n, hdat⟩ := g
  rw [ho] at ho'
  cases ho'
  obtain ⟨tl, ps, vs, e1, p1, p2, kv⟩ := pairs_of I.hok hp rel
  subst e1
  have l1 : tl.length = ps.length := Paired.length p1
  have l2 : ps.length = vs.length := Paired.length p2
  have l3 : kvs.length = vs.length := kv.length
  refine PySem.call_dict_pairs (knd := mixKind X.prog X.w) (kvs := vs) (PairArg.tuple a (tl.map Value.ref).toArray (fun j => tl.getD j 0) ps) (I.ok.hd hc) ⟨⟨o, n, ho, hcl, hd, hdat⟩, by simp [l1], fun j k v hj => ?_⟩ ⟨l2.symm, fun i key v hi => ?_⟩ (by omega) fun h' tk dd hk => ?_
  · obtain ⟨t, ht, it⟩ := paired_get p1 hj
    have et : tl.getD j 0 = t := by simp [List.getD, ht]
    refine ⟨?_, .inl ?_⟩
    · simp [ht]
    · show Heap.IsTuple _ (tl.getD j 0) _
      rw [et]
      exact it
  · obtain ⟨y, hy, hk, e⟩ := paired_get' p2 hi
    exact ⟨y.1, by rw [hy]; exact congrArg some (Prod.ext rfl e.symm), hk⟩
  · refine ⟨.ref s.heap.objs.size, _, I.laid (a := s.heap.objs.size) (o := .dK (mergeK [] kvs)) (t' := tk) (fun b u e => hk b u (by simp) e) (Nat.le_refl _) ⟨?_, beq_eq_false_iff_ne.mpr (Ne.symm (Nat.ne_of_lt I.big)), _, KV.merge kv .nil, dd⟩, rfl, q _ (I.hok.fresh (Nat.le_refl _))⟩
    have hm := KV.length (KV.merge kv (.nil : KV ([] : List (Key × V)) []))
    have := merged_length ([] : List (Key × Value)) vs
    rw [hm]
    simp only [List.length_nil] at this
    omega
theorem call_tupleF {X : Cx} : CallR X (.type "tuple") (rTupF X.K) := by
  intro pins s σ H xs us Q I r h
  obtain ⟨p, ys, rfl, hq, q⟩ := h
  obtain ⟨u, rfl, rx⟩ := vals1 r
  cases rx
  obtain ⟨its, r', pl, hz⟩ := I.list hq
  have hlen := r'.length
  refine call_tuple_list pl.isList (fun h' kp => ?_) (by simp only [List.size_toArray] <;> omega)
  have I1 : Inv X pins σ H { s with heap := h' } := I.kept (t' := s.toks) kp
  have I2 : Inv X pins σ (upd H h'.objs.size (.frz { cls := .type "tuple", data := .seq its.toArray } (.tup ys))) { s with heap := h'.push { cls := .type "tuple", data := .seq its.toArray } } :=
    I1.laid (t' := s.toks) (fun b o e => Heap.get?_push_of_some _ e) (Nat.le_refl _) (show ObjOk X.prog X.w _ _ _ (.frz { cls := .type "tuple", data := .seq its.toArray } (.tup ys)) from ⟨Heap.get?_push_size _ rfl, hz, its, r', IsTup.new _ _⟩)
  exact ⟨.ref h'.objs.size, _, I2, rfl, q _ _ (I1.hok.fresh (Nat.le_refl _)) rfl rfl⟩
end Dc
end L2
namespace Q20
open PySem L2 Ln
def top (i : Nat) : Stmt := PySem.Challenge.pw_bothtimes_k20_whole_known_on_both_times.main.body.getD i (.Pass ⟨0, 0, 0, 0⟩)
abbrev sStart : Stmt := top 23
abbrev sTake : Stmt := top 24
abbrev sOf : Stmt := top 25
abbrev sOrder : Stmt := top 26
/-! ### the urn that is drawn from: great numbers, then a seed -/
structure Urn (H : Hp) (p q : Addr) : Prop where
  at_ : ∃ (gs : List Int) (s : Int), H p = some (.lst [.ref q, .int s]) ∧ H q = some (.lst (gs.map V.int)) ∧ (∀ g ∈ gs, 0 ≤ g ∧ g < 10 ^ 720) ∧ gs.length ≤ 63 ∧ 0 ≤ s ∧ s < 2305843009213693951
  ne : p ≠ q
/-- all but p and q stands -/
def But (p q : Addr) (H H' : Hp) : Prop := ∀ b o, b ≠ p → b ≠ q → H b = some o → H' b = some o
theorem But.trans {p q : Addr} {H H1 H2 : Hp} (a : But p q H H1) (b : But p q H1 H2) : But p q H H2 := fun c o h1 h2 e => b c o h1 h2 (a c o h1 h2 e)
theorem But.of {p q : Addr} {H H' : Hp} (s : Same H H') : But p q H H' := fun b o _ _ e => s b o e
theorem But.refl {p q : Addr} (H : Hp) : But p q H H := fun _ _ _ _ e => e
theorem same_new {H : Hp} {p : Addr} (h : H p = none) (o : HO) : Same H (upd H p o) := fun b u q => by rw [upd_ne (ne_of_none q h)]; exact q
theorem Urn.same {H H' : Hp} {p q : Addr} (u : Urn H p q) (s : Same H H') : Urn H' p q := by
  obtain ⟨⟨gs, x, h1, h2, h3⟩, ne⟩ := u
  exact ⟨⟨gs, x, s _ _ h1, s _ _ h2, h3⟩, ne⟩
theorem Urn.upd {H : Hp} {p q D : Addr} {o : HO} (u : Urn H p q) (h1 : D ≠ p) (h2 : D ≠ q) : Urn (L2.upd H D o) p q := by
  obtain ⟨⟨gs, x, e1, e2, h3⟩, ne⟩ := u
  exact ⟨⟨gs, x, by rw [upd_ne (Ne.symm h1)]; exact e1, by rw [upd_ne (Ne.symm h2)]; exact e2, h3⟩, ne⟩
theorem Urn.nep {H : Hp} {p q b : Addr} (u : Urn H p q) (h : H b = none) : b ≠ p ∧ b ≠ q := by
  obtain ⟨⟨gs, x, e1, e2, _⟩, _⟩ := u
  refine ⟨fun z => ?_, fun z => ?_⟩
  · subst z
    rw [h] at e1
    cases e1
  · subst z
    rw [h] at e2
    cases e2
theorem Urn.tup {H : Hp} {p q b : Addr} {xs : List V} (u : Urn H p q) (h : H b = some (.tup xs)) : b ≠ p ∧ b ≠ q := by
  obtain ⟨⟨gs, x, e1, e2, _⟩, _⟩ := u
  exact ⟨ne_of h e1 (by intro z; cases z), ne_of h e2 (by intro z; cases z)⟩
theorem keep_but {H H' : Hp} {p q : Addr} (u : Urn H p q) (sb : But p q H H') : Keep H H' := fun a xs e => sb a _ (u.tup e).1 (u.tup e).2 e
theorem But.upd {p q D : Addr} {H H1 : Hp} {o : HO} (sb : But p q H H1) (h : H D = none) : But p q H (L2.upd H1 D o) := fun b u h1 h2 e => by
  rw [upd_ne (ne_of_none e h)]
  exact sb b u h1 h2 e
theorem ff2 {c : Bool} {A B : Prop} (hc : c = false) (h : B) : if c = true then A else B := by
  rw [hc, if_neg Bool.false_ne_true]
  exact h
theorem tt2 {c : Bool} {A B : Prop} (hc : c = true) (h : A) : if c = true then A else B := by
  rw [if_pos hc]
  exact h
theorem small1000 {n : Nat} (h : n ≤ 1000) : n < sizeLine := by rw [sizeLine_eq]; omega
theorem at_some {α : Type} {xs : List α} {r : Int} (h0 : 0 ≤ r) (h1 : r < (xs.length : Int)) : ∃ v, atI xs r = some v ∧ v ∈ xs := by
  have hk : r.toNat < xs.length := by omega
  refine ⟨xs[r.toNat], ?_, List.getElem_mem hk⟩
  have h := atI_nat (xs := xs) (List.getElem?_eq_getElem hk)
  have e : ((r.toNat : Nat) : Int) = r := by omega
  rw [e] at h
  exact h
/-- a statement, by what is to hold behind it -/
theorem seq_cut {t u : TS} {D : Ends} {σ : L2.St} {H : Hp} (Inv : L2.St → Hp → Prop) (ht : (∀ σ' H', Inv σ' H' → u D σ' H') → t { D with nx := u D } σ H) (hk : ∀ σ' H', Inv σ' H' → u D σ' H') : tSeq t u D σ H := ht hk
theorem next_cut {D : Ends} {σ : L2.St} {H : Hp} (h : D.nx σ H) : tNext D σ H := h
theorem name_cut {i : Nat} {v : V} {σ : L2.St} {H : Hp} {Q : L2.St → Hp → Prop} (h : Q (σ.set i (some v)) H) : gName i v σ H Q := h
/-- i ** j of a great i -/
def CPowL (i j : Int) : Prop := 0 ≤ j ∧ (Builtin.Int.intBits i : Int) * j ≤ 2 ^ 27
theorem op_powL {X : Cx} : OpR X (binaryOp .Pow) (rI CPowL fun i j => .int (i ^ j.toNat)) := opI fun _ _ _ _ _ _ _ hc q => PyProof.Rows.pow_int hc.1 hc.2 q
def spTake : Sp := fun vs H Q _ => ∃ (p q : Addr) (m : Int), vs = [.ref p, .int m] ∧ Urn H p q ∧ 0 < m ∧ m ≤ 10 ^ 18 ∧ ∀ (r : Int) (H' : Hp), 0 ≤ r → r < m → Urn H' p q → But p q H H' → Q (.int r) H'
def spOf : Sp := fun vs H Q _ => (∃ (p q a : Addr) (xs : List V), vs = [.ref p, .ref a] ∧ (H a = some (.lst xs) ∧ a ≠ p ∧ a ≠ q) ∧ 0 < xs.length ∧ xs.length ≤ 1000 ∧ Urn H p q ∧ ∀ (v : V) (H' : Hp), v ∈ xs → Urn H' p q → But p q H H' → Q v H') ∨
  ∃ (p q : Addr) (z : Str), vs = [.ref p, .str z] ∧ 0 < z.length ∧ z.length ≤ 1000 ∧ Tx.Let z ∧ Urn H p q ∧ ∀ (y : Str) (H' : Hp), y.length = 1 → Tx.Let y → Urn H' p q → But p q H H' → Q (.str y) H'
def spStart (K : PySem.W.Frag) : Sp := fun vs H Q _ => ∃ (a : Addr) (ns : List Int), vs = [.ref a] ∧ SqL K H a (ns.map V.int) ∧ ns.length ≤ 63 ∧ ∀ (p q : Addr) (H' : Hp), H p = none → H q = none → Urn H' p q → Same H H' → Q (.ref p) H'
def spOrder : Sp := fun vs H Q _ => ∃ (p q a : Addr) (xs : List V), vs = [.ref p, .ref a] ∧ H a = some (.lst xs) ∧ a ≠ p ∧ a ≠ q ∧ xs.length ≤ 1000 ∧ Urn H p q ∧ ∀ (L : Addr) (ys : List V) (H' : Hp), H L = none → H' L = some (.lst ys) → (∀ y ∈ ys, y ∈ xs) → ys.length = xs.length → Urn H' p q → But p q H H' → Q (.ref L) H'
theorem ints_dp {K : PySem.W.Frag} {H : Hp} : ∀ gs : List Int, DpAll K H (gs.map V.int) (gs.map PyData.int) ∧ PyData.canLayAll0 (gs.map PyData.int) = true ∧ PyData.depthAll (gs.map PyData.int) = 0
  | [] => ⟨.nil, rfl, rfl⟩
  | g :: r => by
    obtain ⟨a, b, c⟩ := ints_dp (K := K) (H := H) r
    refine ⟨.cons (.int g) a, ?_, ?_⟩
    · rw [List.map_cons]
      simp only [PyData.canLayAll0, PyData.canLay0, b]
      rfl
    · rw [List.map_cons]
      simp only [PyData.depthAll, PyData.depth, c]
      rfl
theorem ints_shape (gs : List Int) : SeqAt.shaped (.list (gs.map PyData.int)) = true := by
  obtain ⟨_, b, c⟩ := ints_dp (K := default) (H := fun _ => none) gs
  exact Bool.and_eq_true_iff.mpr ⟨by simpa [PyData.canLay0] using b, decide_eq_true (by simp only [PyData.depth]; omega)⟩
theorem ints_ne (gs : List Int) : (!PyData.eqv (.list (gs.map PyData.int)) (.list [])) = !gs.isEmpty := by
  cases gs <;> rfl
theorem at_zero (g : Int) (r : List Int) : atI ((g :: r).map V.int) 0 = some (.int g) := atI_nat (j := 0) rfl
section
variable {P : Program} {w : World} {K : PySem.W.Frag} {mg : Str → Option Value} {base : Heap}
variable {f fT : Addr} {fd fdT : FuncData}
theorem scTake : FnScope ["_law_urn", "_law_many", "_law_digit"] ["_law_urn", "_law_many"] (defScope sTake) := ⟨rfl, rfl, rfl, by decide +kernel, rfl, by decide +kernel, by decide +kernel⟩
theorem ok_take (F : Fun K "_law_take" "_law_take" sTake f fd) : FnOk P w K mg base CX0 1 f fd ["_law_urn", "_law_many"] spTake := by
  refine F.ok scTake (fun vs H Q E h => ?_) (fun cdv A outer s H vs Q E hr h => ?_)
  · obtain ⟨p, q, m, rfl, _⟩ := h
    rfl
  obtain ⟨p, q, m, rfl, hU, m0, m1, qq⟩ := h
  have hu := hr.units
  refine ⟨_, pss_cons (ps_while PassesOwn.never (PW.pt (pw_and (pt_cmpR (op_neD hu) (pe_ix ix_list (pv 0) pe_int (fun _ _ => rfl)) (pe_lst pa_nil) (nomark _)) (pw_and1 (pt_cmpR op_eq (pe_ix ix_list (pe_ix ix_list (pv 0) pe_int (fun _ _ => rfl)) pe_int (fun _ _ => rfl)) pe_int (nomark _)))))
      (pss_one (ps_expr (pe_bm PySem.F.plainAttrs_list PySem.F.slot_list_pop PySem.F.type_list_pop mt_popAt (pe_ix ix_list (pv 0) pe_int (fun _ _ => rfl)) (pa_cons pe_int pa_nil)))))
    (pss_cons (ps_if (pt_cmpR (op_neD hu) (pe_ix ix_list (pv 0) pe_int (fun _ _ => rfl)) (pe_lst pa_nil) (nomark _))
      (pss_cons (ps_set (i := 2) scTake.nd rfl (Or.inl rfl) (pe_op op_mod (pe_ix ix_list (pe_ix ix_list (pv 0) pe_int (fun _ _ => rfl)) pe_int (fun _ _ => rfl)) (pv 1)))
      (pss_cons (ps_asg (pe_op op_fdivW (pe_ix ix_list (pe_ix ix_list (pv 0) pe_int (fun _ _ => rfl)) pe_int (fun _ _ => rfl)) (pv 1)) (pg_sub (pe_ix ix_list (pv 0) pe_int (fun _ _ => rfl)) pe_int set_list))
      (pss_one (ps_ret (pv 2))))) pss_nil)
    (pss_cons (ps_asg (pe_op op_mod (pe_op op_add (pe_op op_mul (pe_ix ix_list (pv 0) pe_int (fun _ _ => rfl)) pe_int) pe_int) pe_int) (pg_sub (pv 0) pe_int set_list))
    (pss_one (ps_ret (pe_op op_mod (pe_op op_fdiv (pe_op op_mod (pe_op op_mul (pe_ix ix_list (pv 0) pe_int (fun _ _ => rfl)) (pe_op op_add (pe_op op_mod (pe_ix ix_list (pv 0) pe_int (fun _ _ => rfl)) pe_int) pe_int)) pe_int) pe_int) (pv 1)))))), ?_⟩
  refine seq_cut (fun σ' H' => σ' = [some (.ref p), some (.int m), none] ∧ Urn H' p q ∧ But p q H H') (fun R => ?_) ?_
  · refine while_by (fun σ' H1 => σ' = [some (.ref p), some (.int m), none] ∧ Urn H1 p q ∧ But p q H H1) (fun _ H' => match H' q with | some (.lst xs) => xs.length | _ => 0) ⟨rfl, hU, But.refl H⟩ ?_ ?_
    · rintro σ' H1 ⟨rfl, hU1, sb1⟩
      obtain ⟨⟨gs, x, hp, hq, hg, lg, x0, x1⟩, ne⟩ := hU1
      refine ⟨_, rfl, p, _, _, _, rfl, rfl, SqL.of hp, rfl, (by show 0 ≤ sizeLine; decide), fun E0 nE => ?_⟩
      have sE : Same H1 _ := same_new nE (.lst [])
      have hp2 := sE _ _ hp
      have hq2 := sE _ _ hq
      obtain ⟨dp1, _, _⟩ := ints_dp (K := K) (H := upd H1 E0 (.lst [])) gs
      refine ⟨.list (gs.map PyData.int), .list [], .lst (SqL.of hq2) dp1, .lst (SqL.of upd_same) .nil, ints_shape gs, rfl, _, rfl, ?_⟩
      rw [ints_ne]
      have sb2 : But p q H (upd H1 E0 (.lst [])) := sb1.trans (But.of sE)
      cases gs with
      | nil =>
        refine ff2 rfl (ff2 rfl ?_)
        exact R _ _ ⟨rfl, ⟨⟨[], x, hp2, hq2, hg, lg, x0, x1⟩, ne⟩, sb2⟩
      | cons g r =>
        refine tt2 rfl ⟨_, rfl, p, _, _, .ref q, rfl, rfl, SqL.of hp2, rfl, q, _, _, .int g, rfl, rfl, SqL.of hq2, at_zero g r, rfl, _, rfl, ?_⟩
        by_cases g0 : g = 0
        · refine tt2 (decide_eq_true (by rw [g0])) ?_
          refine ⟨_, rfl, p, _, _, .ref q, rfl, rfl, SqL.of hp2, rfl, .inl ⟨rfl, _, SqL.of hq2⟩, q, _, 0, 0, .int g, rfl, rfl, hq2, by decide, by decide, ?_, rfl, ?_⟩
          · rw [List.length_map]
            show seqIndex? 0 (r.length + 1) = some 0
            unfold seqIndex?
            simp
          have st : ((g :: r).map V.int).eraseIdx 0 = r.map V.int := rfl
          rw [st]
          refine ⟨⟨rfl, ⟨⟨r, x, by rw [upd_ne ne]; exact hp2, upd_same, fun z hz => hg z (List.mem_cons_of_mem _ hz), by simp only [List.length_cons] at lg; omega, x0, x1⟩, ne⟩, fun b o h1 h2 e => ?_⟩, ?_⟩
          · rw [upd_ne h2]
            exact sb2 b o h1 h2 e
          · show (match (upd (upd H1 E0 (.lst [])) q (.lst (r.map V.int))) q with | some (.lst xs) => xs.length | _ => 0) < (match H1 q with | some (.lst xs) => xs.length | _ => 0)
            rw [upd_same, hq]
            simp
        · refine ff2 (decide_eq_false fun z => g0 (V.int.inj z)) ?_
          exact R _ _ ⟨rfl, ⟨⟨g :: r, x, hp2, hq2, hg, lg, x0, x1⟩, ne⟩, sb2⟩
    · intro σ' H1 Q1 Q2 hQ h
      obtain ⟨v, e1, p1, xs1, i1, y1, a1, a2, a3, a4, l0, k0⟩ := h
      refine ⟨v, e1, p1, xs1, i1, y1, a1, a2, a3, a4, l0, fun E0 nE => ?_⟩
      obtain ⟨d, e, h1, h2, h3, h4, c, hc, h5⟩ := k0 E0 nE
      refine ⟨d, e, h1, h2, h3, h4, c, hc, ?_⟩
      cases c with
      | false => exact hQ _ _ h5
      | true =>
        obtain ⟨v2, f1, p2, xs2, i2, y2, b1, b2, b3, b4, p3, xs3, i3, y3, c1, c2, c3, c4, c5, k, c6, c7⟩ := h5
        exact ⟨v2, f1, p2, xs2, i2, y2, b1, b2, b3, b4, p3, xs3, i3, y3, c1, c2, c3, c4, c5, k, c6, hQ _ _ c7⟩
  rintro σ' H2 ⟨rfl, hU2, sb3⟩
  obtain ⟨⟨hs, x, hp3, hq3, hg3, lh, x0, x1⟩, ne⟩ := hU2
  refine ⟨_, rfl, p, _, _, _, rfl, rfl, SqL.of hp3, rfl, (by show 0 ≤ sizeLine; decide), fun E1 nE1 => ?_⟩
  have sE1 : Same H2 _ := same_new nE1 (.lst [])
  have hp4 := sE1 _ _ hp3
  have hq4 := sE1 _ _ hq3
  obtain ⟨dp1, _, _⟩ := ints_dp (K := K) (H := upd H2 E1 (.lst [])) hs
  refine ⟨.list (hs.map PyData.int), .list [], .lst (SqL.of hq4) dp1, .lst (SqL.of upd_same) .nil, ints_shape hs, rfl, _, rfl, ?_⟩
  rw [ints_ne]
  have sb4 : But p q H (upd H2 E1 (.lst [])) := sb3.trans (But.of sE1)
  obtain ⟨H5, hH5⟩ : ∃ H5, upd H2 E1 (.lst []) = H5 := ⟨_, rfl⟩
  rw [hH5] at hp4 hq4 sb4 ⊢
  cases hs with
  | nil =>
    refine ff2 rfl ?_
    refine ⟨_, rfl, p, _, _, _, rfl, rfl, SqL.of hp4, rfl, _, _, rfl, rfl, .inl ⟨by omega, by omega⟩, _, _, rfl, rfl, _, _, rfl, rfl, (by show (0 : Int) < 2305843009213693951; decide), _, rfl, p, _, _, 1, rfl, rfl, hp4, rfl, ?_⟩
    obtain ⟨y, hy⟩ : ∃ y, (x * 6364136223846793005 + 1442695040888963407) % 2305843009213693951 = y := ⟨_, rfl⟩
    have y0 : 0 ≤ y := by rw [← hy]; exact Int.emod_nonneg _ (by decide)
    have y1 : y < 2305843009213693951 := by rw [← hy]; exact Int.emod_lt_of_pos _ (by decide)
    have st : ([V.ref q, V.int x] : List V).set 1 (.int y) = [.ref q, .int y] := rfl
    dsimp only
    rw [hy, st]
    have hp5 : (upd H5 p (.lst [.ref q, .int y])) p = some (.lst [.ref q, .int y]) := upd_same
    have hU5 : Urn (upd H5 p (.lst [.ref q, .int y])) p q := ⟨⟨[], y, upd_same, by rw [upd_ne (Ne.symm ne)]; exact hq4, fun g hg => (nomatch hg), by decide, y0, y1⟩, ne⟩
    have sb5 : But p q H (upd H5 p (.lst [.ref q, .int y])) := fun b o h1 h2 e => by
      rw [upd_ne h1]
      exact sb4 b o h1 h2 e
    refine ⟨_, rfl, p, _, _, .int y, rfl, rfl, SqL.of hp5, rfl, _, rfl, p, _, _, .int y, rfl, rfl, SqL.of hp5, rfl, _, _, rfl, rfl, (by show (0 : Int) < 1000003; decide), _, _, rfl, rfl, _, _, rfl, rfl, .inl ⟨by omega, by omega⟩, _, _, rfl, rfl, (by show (0 : Int) < 2305843009213693951; decide), _, _, rfl, rfl, ⟨by decide, by decide⟩, _, rfl, _, _, rfl, rfl, m0, ?_⟩
    exact qq _ _ (Int.emod_nonneg _ (by omega)) (Int.emod_lt_of_pos _ m0) hU5 sb5
  | cons g r =>
    refine tt2 rfl ?_
    have hg0 := hg3 g (List.mem_cons_self ..)
    refine ⟨_, rfl, p, _, _, .ref q, rfl, rfl, SqL.of hp4, rfl, q, _, _, .int g, rfl, rfl, SqL.of hq4, at_zero g r, _, rfl, _, _, rfl, rfl, m0, ?_⟩
    refine ⟨_, rfl, p, _, _, .ref q, rfl, rfl, SqL.of hp4, rfl, q, _, _, .int g, rfl, rfl, SqL.of hq4, at_zero g r, _, rfl, _, _, rfl, rfl, wide_div (b := 64) m0 (by omega) (by decide) (by decide), _, rfl, p, _, _, .ref q, rfl, rfl, SqL.of hp4, rfl, q, _, _, 0, rfl, rfl, hq4, ?_, ?_⟩
    · unfold ixN
      rw [List.length_map, if_pos (by decide), if_pos (by simp)]
      rfl
    have st : ((g :: r).map V.int).set 0 (.int (g / m)) = ((g / m) :: r).map V.int := rfl
    dsimp only
    rw [st]
    have d0 : 0 ≤ g / m := Int.ediv_nonneg hg0.1 (by omega)
    have d1 : g / m < 10 ^ 720 := Int.lt_of_le_of_lt (Int.ediv_le_self _ hg0.1) hg0.2
    refine ⟨_, rfl, qq _ _ (Int.emod_nonneg _ (by omega)) (Int.emod_lt_of_pos _ m0) ⟨⟨(g / m) :: r, x, by rw [upd_ne ne]; exact hp4, upd_same, fun z hz => ?_, lh, x0, x1⟩, ne⟩ fun b o h1 h2 e => ?_⟩
    · rcases List.mem_cons.mp hz with rfl | hz
      · exact ⟨d0, d1⟩
      · exact hg3 z (List.mem_cons_of_mem _ hz)
    · rw [upd_ne h2]
      exact sb4 b o h1 h2 e
theorem scOf : FnScope ["_law_urn", "_law_some"] ["_law_urn", "_law_some"] (defScope sOf) := ⟨rfl, rfl, rfl, by decide +kernel, rfl, by decide +kernel, by decide +kernel⟩
theorem let_sign {z : Str} {c : Nat} (h : Tx.Let z) (hc : c ∈ z.cps.toList) : Tx.Let ⟨#[c]⟩ := fun x hx => by
  have e : x = c := by simpa using hx
  rw [e]
  exact h c hc
theorem ok_of (F : Fun K "_law_of" "_law_of" sOf f fd) (GT : FnOk P w K mg base CX0 1 fT fdT ["_law_urn", "_law_many"] spTake) (bT : Binds K fdT ["_law_urn", "_law_many"] []) (kT : PySem.W.keepIn K (.ref fT) = true) (mT : mg "_law_take" = some (.ref fT)) (ml : mg "len" = none) :
    FnOk P w K mg base CX0 2 f fd ["_law_urn", "_law_some"] spOf := by
  refine F.ok scOf (fun vs H Q E h => ?_) (fun cdv A outer s H vs Q E hr h => ?_)
  · rcases h with ⟨p, q, a, xs, rfl, _⟩ | ⟨p, q, z, rfl, _⟩ <;> rfl
  refine ⟨_, pss_one (ps_ret (pe_ix ix_seq (pv 1) (pe_call GT hr (by rfl) mT kT bT .nil pass0 (pa_cons (pv 0) (pa_cons (pe_callB call_len (by rfl) ml PySem.boot_len (pa_cons (pv 1) pa_nil)) pa_nil))) (fun _ _ => rfl))), ?_⟩
  rcases h with ⟨p, q, a, xs, rfl, ⟨ha, nap, naq⟩, l0, l1, hU, qq⟩ | ⟨p, q, z, rfl, l0, l1, hz, hU, qq⟩
  · refine ⟨_, rfl, _, rfl, _, rfl, _, _, rfl, .inl ⟨_, SqL.of ha, rfl⟩, p, q, ((xs.length : Nat) : Int), rfl, hU, by omega, by omega, fun r H1 r0 r1 hU1 sb1 => ?_⟩
    obtain ⟨v, hv, hm⟩ := at_some (xs := xs) r0 r1
    exact .inl ⟨a, xs, r, v, rfl, rfl, SqL.of (sb1 _ _ nap naq ha), hv, qq v H1 hm hU1 sb1⟩
  · have lz : z.length ≤ sizeLine := by rw [sizeLine_eq]; omega
    refine ⟨_, rfl, _, rfl, _, rfl, _, _, rfl, ⟨lz, rfl⟩, p, q, ((z.length : Nat) : Int), rfl, hU, by omega, by omega, fun r H1 r0 r1 hU1 sb1 => ?_⟩
    have r1' : r < ((z.cps.toList.length : Nat) : Int) := by rw [Array.length_toList]; exact r1
    obtain ⟨c, hc, hm⟩ := at_some (xs := z.cps.toList) r0 r1'
    exact .inr (.inr ⟨z, r, c, rfl, rfl, lz, hc, qq _ H1 rfl (let_sign hz hm) hU1 sb1⟩)
theorem scStart : FnScope ["_law_script", "_law_seed", "_law_k", "_law_cell"] ["_law_script"] (defScope sStart) := ⟨rfl, rfl, rfl, by decide +kernel, rfl, by decide +kernel, by decide +kernel⟩
theorem cut_63 (xs : List V) (h : xs.length ≤ 63) : cutV xs none (some 63) = xs := by
  unfold cutV
  rw [show HT.sIx xs.length xs.length (some 63) = min 63 xs.length from HT.sIx_nat xs.length xs.length 63, HT.sIx_none, List.drop_zero]
  exact List.take_of_length_le (by omega)
theorem pow720 : ((10 : Int) ^ (60 : Int).toNat) ^ (12 : Int).toNat = 10 ^ 720 := by decide +kernel
theorem ok_start (F : Fun K "_law_start" "_law_start" sStart f fd) (me : mg "enumerate" = none) (ma : mg "abs" = none) : FnOk P w K mg base CX0 1 f fd ["_law_script"] (spStart K) := by
  refine F.ok scStart (fun vs H Q E h => ?_) (fun cdv A outer s H vs Q E hr h => ?_)
  · obtain ⟨a, ns, rfl, _⟩ := h
    rfl
  obtain ⟨a, ns, rfl, hS, h63, qq⟩ := h
  have lm : (ns.map V.int).length ≤ 63 := by rw [List.length_map]; exact h63
  have sqk : ∀ {H' : Hp}, Same H H' → SqL K H' a (ns.map V.int) := fun s => by
    rcases hS with (h | ⟨o, h⟩) | h
    · exact .inl (.inl (s _ _ h))
    · exact .inl (.inr ⟨o, s _ _ h⟩)
    · exact .inr h
  refine ⟨_, pss_cons (ps_set (i := 1) scStart.nd rfl (Or.inl rfl) pe_int)
    (pss_cons (ps_for PassesOwn.never rfl (pi_enum (by rfl) me (pa_cons (pe_slice sl_list (pv 0) po_none (po_some pe_int)) pa_nil)) (pg_tup rfl (pgs_cons (pg_name (i := 2) scStart.nd rfl (.inl rfl)) (pgs_cons (pg_name (i := 3) scStart.nd rfl (.inl rfl)) pgs_nil)))
      (pss_one (ps_set (i := 1) scStart.nd rfl (Or.inl rfl) (pe_op op_mod (pe_op op_add (pe_op op_add (pe_op op_add (pe_op op_mul (pv 1) pe_int) (pe_op op_mod (pv 3) pe_int)) (pe_op op_mul pe_int (pv 2))) pe_int) pe_int))))
    (pss_one (ps_ret (pe_lst (pa_cons (pe_lc (own := [("_law_cell", 3)]) (g := gName 3) (by rfl) scStart.nd (pi_list (pe_slice sl_list (pv 0) po_none (po_some pe_int))) (blkOk_by (own := [("_law_cell", 3)]) (N := ["_law_script", "_law_seed", "_law_k", "_law_cell"]) (sc := defScope sStart) (by decide +kernel))
      (fun _ _ _ _ _ => pg_name (i := 3) scStart.nd rfl (Or.inl rfl)) (fun _ _ _ _ _ => pts_one (pt_cmpR op_ge (pe_callB call_abs (by rfl) ma (by decide +kernel) (pa_cons (pv 3) pa_nil)) (pe_op op_pow pe_int pe_int) (nomark _)))
      (fun _ _ _ _ _ => pe_op op_mod (pe_callB call_abs (by rfl) ma (by decide +kernel) (pa_cons (pv 3) pa_nil)) (pe_op op_powL (pe_op op_pow pe_int pe_int) pe_int))) (pa_cons (pv 1) pa_nil)))))), ?_⟩
  refine ⟨_, rfl, 63, rfl, a, _, rfl, hS, fun C nC => ?_⟩
  rw [cut_63 _ lm]
  have g1 : Same H _ := same_new nC (.lst (ns.map V.int))
  obtain ⟨H1, hH1⟩ : ∃ H1, upd H C (.lst (ns.map V.int)) = H1 := ⟨_, rfl⟩
  have hC : H1 C = some (.lst (ns.map V.int)) := by rw [← hH1]; exact upd_same
  rw [hH1] at g1 ⊢
  refine ⟨C, _, rfl, SqL.of hC, for_it (walk_enum (K := K) (a := C) (xs := ns.map V.int)) (fun i σ' H2 => ∃ (x : Int) (v2 v3 : Option V), σ' = [some (.ref a), some (.int x), v2, v3] ∧ 0 ≤ x ∧ x < 2305843009213693951 ∧ Same H1 H2) ⟨29, none, none, rfl, by decide, by decide, Same.refl _⟩ (fun i σ' H2 _ ⟨_, _, _, _, _, _, s2⟩ => SqL.of (s2 _ _ hC)) ?_ ?_⟩
  · rintro i xx σ' H2 H3 hi ⟨x, v2, v3, rfl, x0, x1, s2⟩ ⟨T, y1, y2, rfl, nT, rfl, ex, ey⟩
    cases Option.some.inj ex
    dsimp only at ey
    rw [List.getElem?_map] at ey
    obtain ⟨c, hc, rfl⟩ : ∃ c, ns[i]? = some c ∧ y2 = V.int c := by
      cases e : ns[i]? with
      | none => rw [e] at ey; cases ey
      | some c => rw [e] at ey; exact ⟨c, rfl, (Option.some.inj ey).symm⟩
    have gT : Same H2 _ := same_new nT (.tup [.int ((i : Nat) : Int), .int c])
    refine ⟨T, _, rfl, SqT.of upd_same, rfl, _, _, rfl, _, _, rfl, rfl, ?_⟩
    refine ⟨_, rfl, _, _, rfl, rfl, .inl ⟨by omega, by omega⟩, _, rfl, _, _, rfl, rfl, (by show (0 : Int) < 2305843009213693951; decide), _, _, rfl, rfl, _, rfl, _, _, rfl, rfl, .inl ⟨by decide, by decide⟩, _, _, rfl, rfl, _, _, rfl, rfl, _, _, rfl, rfl, (by show (0 : Int) < 2305843009213693951; decide), ?_⟩
    exact ⟨_, _, _, rfl, Int.emod_nonneg _ (by decide), Int.emod_lt_of_pos _ (by decide), s2.trans gT⟩
  rintro σ' H2 ⟨x, v2, v3, rfl, x0, x1, s2⟩
  have sH2 : Same H H2 := g1.trans s2
  refine ⟨_, rfl, 63, rfl, a, _, rfl, sqk sH2, fun C2 nC2 => ?_⟩
  rw [cut_63 _ lm]
  have g3 : Same H2 _ := same_new nC2 (.lst (ns.map V.int))
  refine ⟨C2, rfl, ⟨_, SqL.of upd_same⟩, fun D nD => ?_⟩
  refine lc_list (K := K) (a := C2) (xs := ns.map V.int) (fun i H3 => ∃ gs : List Int, H3 D = some (.lst (gs.map V.int)) ∧ (∀ g ∈ gs, 0 ≤ g ∧ g < 10 ^ 720) ∧ gs.length ≤ i ∧ Same (upd H2 C2 (.lst (ns.map V.int))) H3) ⟨[], upd_same, fun g hg => (nomatch hg), Nat.le_refl _, same_new nD _⟩ (fun i H3 _ ⟨_, _, _, _, s3⟩ => SqL.of (s3 _ _ upd_same)) ?_ ?_
  · rintro i b H3 hi ⟨gs, d1, d2, d3, s3⟩
    have li : i < 63 := by
      have := (List.getElem?_eq_some_iff.mp hi).1
      omega
    rw [List.getElem?_map] at hi
    obtain ⟨c, hc, rfl⟩ : ∃ c, ns[i]? = some c ∧ b = V.int c := by
      cases e : ns[i]? with
      | none => rw [e] at hi; cases hi
      | some c => rw [e] at hi; exact ⟨c, rfl, (Option.some.inj hi).symm⟩
    refine ⟨rfl, _, rfl, c, rfl, _, _, rfl, rfl, ⟨by decide, by decide, by decide⟩, _, _, rfl, rfl, _, rfl, ite2 (fun _ => ?_) (fun _ => ⟨gs, d1, d2, by omega, s3⟩)⟩
    refine ⟨_, rfl, c, rfl, _, _, rfl, rfl, ⟨by decide, by decide, by decide⟩, _, _, rfl, rfl, ⟨by decide, by decide +kernel⟩, _, _, rfl, rfl, (by rw [pow720]; show (0 : Int) < 10 ^ 720; decide +kernel), _, d1, ?_, gs ++ [(if c < 0 then -c else c) % 10 ^ 720], ?_, fun g hg => ?_, ?_, fun b o e => ?_⟩
    · rw [List.length_map, sizeLine_eq]
      omega
    · rw [upd_same, List.map_append, pow720]
      rfl
    · rcases List.mem_append.mp hg with hg | hg
      · exact d2 g hg
      · rw [List.mem_singleton.mp hg]
        exact ⟨Int.emod_nonneg _ (by decide +kernel), Int.emod_lt_of_pos _ (by decide +kernel)⟩
    · rw [List.length_append]
      show gs.length + 1 ≤ _
      omega
    · rw [upd_ne (ne_of_none e nD)]
      exact s3 _ _ e
  rintro H3 ⟨gs, d1, d2, d3, s3⟩
  refine ⟨_, rfl, (by rw [sizeLine_eq]; simp), fun p np => ?_⟩
  have gp : Same H3 _ := same_new np (.lst [.ref D, .int x])
  have sH3 : Same H H3 := (sH2.trans g3).trans s3
  rw [List.length_map] at d3
  refine qq p D _ (sH3.free np) ((sH2.trans g3).free nD) ⟨⟨gs, x, upd_same, gp _ _ d1, d2, by omega, x0, x1⟩, (ne_of_none d1 np).symm⟩ (sH3.trans gp)
theorem scOrder : FnScope ["_law_urn", "_law_some", "_law_left", "_law_k"] ["_law_urn", "_law_some"] (defScope sOrder) := ⟨rfl, rfl, rfl, by decide +kernel, rfl, by decide +kernel, by decide +kernel⟩
theorem ok_order (F : Fun K "_law_order" "_law_order" sOrder f fd) (GT : FnOk P w K mg base CX0 1 fT fdT ["_law_urn", "_law_many"] spTake) (bT : Binds K fdT ["_law_urn", "_law_many"] []) (kT : PySem.W.keepIn K (.ref fT) = true) (mT : mg "_law_take" = some (.ref fT)) (ml : mg "len" = none) (mli : mg "list" = none) (mr : mg "range" = none) :
    FnOk P w K mg base CX0 2 f fd ["_law_urn", "_law_some"] spOrder := by
  refine F.ok scOrder (fun vs H Q E h => ?_) (fun cdv A outer s H vs Q E hr h => ?_)
  · obtain ⟨p, q, a, xs, rfl, _⟩ := h
    rfl
  obtain ⟨p, q, a, xs, rfl, ha, nap, naq, lx, hU, qq⟩ := h
  refine ⟨_, pss_cons (ps_set (i := 2) scOrder.nd rfl (Or.inr rfl) (pe_callTy call_list_of (by rfl) mli (by decide +kernel) (pa_cons (pv 1) pa_nil)))
    (pss_one (ps_ret (pe_lc (own := [("_law_k", 3)]) (g := gName 3) (te := tBM K "list" rPopAt (tVar 2) (tCons (tCall spTake [] E0 (tCons (tVar 0) (tCons (tCB (fun xs H Q => ∃ (p : Addr) (ys : List V), xs = [V.ref p] ∧ (SqL K H p ys ∨ SqT K H p ys) ∧ Q (.int (ys.length : Nat)) H) (tCons (tVar 2) tNil)) tNil))) tNil)) (by rfl) scOrder.nd (pi_range1 (by rfl) mr (pa_cons (pe_callB call_len_seq (by rfl) ml PySem.boot_len (pa_cons (pv 1) pa_nil)) pa_nil)) (blkOk_by (own := [("_law_k", 3)]) (N := ["_law_urn", "_law_some", "_law_left", "_law_k"]) (sc := defScope sOrder) (by decide +kernel))
      (fun _ _ _ _ _ => pg_name (i := 3) scOrder.nd rfl (Or.inl rfl)) (fun _ _ _ _ _ => pts_nil) (fun _ _ _ _ _ => pe_bm PySem.F.plainAttrs_list PySem.F.slot_list_pop PySem.F.type_list_pop mt_popAt (pv 2) (pa_cons (pe_call GT hr (by rfl) mT kT bT .nil pass0 (pa_cons (pv 0) (pa_cons (pe_callB call_len_seq (by rfl) ml PySem.boot_len (pa_cons (pv 2) pa_nil)) pa_nil))) pa_nil))))), ?_⟩
  refine ⟨_, rfl, a, xs, rfl, .inl (SqL.of ha), fun Z nZ => ?_⟩
  have gZ : Same H _ := same_new nZ (.lst xs)
  have hZpq := hU.nep nZ
  refine ⟨_, rfl, a, _, rfl, .inl (SqL.of (gZ _ _ ha)), ((xs.length : Nat) : Int), rfl, by omega, by omega, fun D nD => ?_⟩
  have hDpq := (hU.same gZ).nep nD
  have nDZ : D ≠ Z := (ne_of_none upd_same nD).symm
  have freeD : H D = none := gZ.free nD
  refine lc_range (lo := 0) (n := ((xs.length : Nat) : Int).toNat) (fun i H1 => ∃ ys zs : List V, H1 D = some (.lst ys) ∧ H1 Z = some (.lst zs) ∧ ys.length = i ∧ zs.length + i = xs.length ∧ (∀ y ∈ ys, y ∈ xs) ∧ (∀ z ∈ zs, z ∈ xs) ∧ Urn H1 p q ∧ But p q H H1)
    ⟨[], xs, upd_same, by rw [upd_ne (Ne.symm nDZ)]; exact upd_same, rfl, by omega, fun y hy => (nomatch hy), fun z hz => hz, (hU.same gZ).same (same_new nD _), But.of (gZ.trans (same_new nD _))⟩ ?_ ?_
  · rintro i H1 hi ⟨ys, zs, d1, d2, d3, d4, d5, d6, d7, d8⟩
    refine ⟨rfl, ?_⟩
    refine ⟨_, rfl, .inl ⟨rfl, _, SqL.of d2⟩, _, rfl, _, rfl, Z, _, rfl, .inl (SqL.of d2), p, q, ((zs.length : Nat) : Int), rfl, d7, by omega, by omega, fun r H2 r0 r1 hU2 sb2 => ?_⟩
    have d2' := sb2 _ _ hZpq.1 hZpq.2 d2
    have d1' := sb2 _ _ hDpq.1 hDpq.2 d1
    have hk : r.toNat < zs.length := by omega
    refine ⟨Z, zs, r, r.toNat, zs[r.toNat], rfl, rfl, d2', by omega, by omega, ?_, List.getElem?_eq_getElem hk, ys, by rw [upd_ne nDZ]; exact d1', by rw [d3]; exact small1000 (by omega), ys ++ [zs[r.toNat]], zs.eraseIdx r.toNat, upd_same, by rw [upd_ne (Ne.symm nDZ)]; exact upd_same, ?_, ?_, fun y hy => ?_, fun z hz => d6 z (List.mem_of_mem_eraseIdx hz), (hU2.upd hZpq.1 hZpq.2).upd hDpq.1 hDpq.2, ((d8.trans sb2).upd nZ).upd freeD⟩
    · unfold seqIndex?
      rw [if_neg (show ¬ r < 0 by omega)]
      simp only
      rw [if_pos (by simp; omega)]
    · rw [List.length_append, d3]
      rfl
    · rw [List.length_eraseIdx, if_pos hk]
      omega
    · rcases List.mem_append.mp hy with hy | hy
      · exact d5 y hy
      · rw [List.mem_singleton.mp hy]
        exact d6 _ (List.getElem_mem hk)
  · rintro H1 ⟨ys, zs, d1, d2, d3, d4, d5, d6, d7, d8⟩
    exact qq D ys H1 freeD d1 d5 (by omega) d7 d8
end
end Q20
namespace Q20
open PySem L2 Ln
abbrev sWords : Stmt := top 27
/-- a word -/
def Wd (y : Str) : Prop := 1 ≤ y.length ∧ y.length ≤ 8 ∧ Tx.Let y
def spWords : Sp := fun vs H Q _ => ∃ (p q : Addr) (many : Nat), vs = [.ref p, .int (many : Int)] ∧ many ≤ 8 ∧ Urn H p q ∧ ∀ (L : Addr) (ys : List Str) (H' : Hp), H L = none → H' L = some (.lst (ys.map V.str)) → ys.length = many → (∀ y ∈ ys, Wd y) → ys.Nodup → Urn H' p q → But p q H H' → Q (.ref L) H'
theorem nodup_snoc {α : Type} {l : List α} {x : α} (h : l.Nodup) (hx : x ∉ l) : (l ++ [x]).Nodup := List.nodup_append.mpr ⟨h, List.pairwise_singleton .., fun a ha b hb e => hx (by rw [List.mem_singleton.mp hb] at e; exact e ▸ ha)⟩
theorem app_let {a b : Str} (ha : Tx.Let a) (hb : Tx.Let b) : Tx.Let (a ++ b) := fun x hx => by
  rw [Tx.cps_app] at hx
  rcases List.mem_append.mp hx with hx | hx
  · exact ha x hx
  · exact hb x hx
theorem join_let {s : Str} (hs : Tx.Let s) : ∀ ys : List Str, (∀ y ∈ ys, Tx.Let y) → Tx.Let (Str.join s ys)
  | [], _ => fun x hx => by
    have e : x ∈ ([] : List Nat) := hx
    cases e
  | [y], h => h y (List.mem_cons_self ..)
  | x :: y :: r, h => by
    show Tx.Let (x ++ s ++ Str.join s (y :: r))
    exact app_let (app_let (h x (List.mem_cons_self ..)) hs) (join_let hs (y :: r) fun z hz => h z (List.mem_cons_of_mem _ hz))
theorem app_len (a b : Str) : (a ++ b).length = a.length + b.length := by
  show (a.cps ++ b.cps).size = _
  rw [Array.size_append]
  rfl
theorem join_len1 {s : Str} (hs : s.length = 0) : ∀ ys : List Str, (∀ y ∈ ys, y.length = 1) → (Str.join s ys).length = ys.length
  | [], _ => rfl
  | [y], h => h y (List.mem_cons_self ..)
  | x :: y :: r, h => by
    show (x ++ s ++ Str.join s (y :: r)).length = _
    rw [app_len, app_len, hs, h x (List.mem_cons_self ..), join_len1 hs (y :: r) fun z hz => h z (List.mem_cons_of_mem _ hz)]
    simp only [List.length_cons]
    omega
/-- some of many unlike ones is not among few -/
theorem pigeon {α : Type} {f : α → V} (hf : ∀ a b, f a = f b → a = b) : ∀ (l : List α) (xs : List V), l.Nodup → (∀ a ∈ l, f a ∈ xs) → l.length ≤ xs.length
  | [], _, _, _ => Nat.zero_le _
  | a :: r, xs, nd, h => by
    have nd' := List.nodup_cons.mp nd
    have ha := h a (List.mem_cons_self ..)
    have ih := pigeon hf r (xs.erase (f a)) nd'.2 fun b hb => by
      refine (List.mem_erase_of_ne fun e => ?_).mpr (h b (List.mem_cons_of_mem _ hb))
      have := hf _ _ e
      subst this
      exact nd'.1 hb
    rw [List.length_erase_of_mem ha] at ih
    have := List.length_pos_of_mem ha
    rw [List.length_cons]
    omega
theorem not_all {α : Type} {l : List α} {xs : List V} {f : α → V} (hf : ∀ a b, f a = f b → a = b) (hl : l.Nodup) (h : xs.length < l.length) : ∃ a ∈ l, f a ∉ xs := by
  by_cases c : ∃ a ∈ l, f a ∉ xs
  · exact c
  · exfalso
    have := pigeon hf l xs hl fun a ha => by
      by_cases z : f a ∈ xs
      · exact z
      · exact absurd ⟨a, ha, z⟩ c
    omega
section
variable {P : Program} {w : World} {K : PySem.W.Frag} {mg : Str → Option Value} {base : Heap}
variable {f fT fO : Addr} {fd fdT fdO : FuncData}
abbrev abc : Str := Str.ofString "abcdefghijklmnopqrstuvwxyz"
abbrev taken : List V := [.str "key", .str "many", .str "sum"]
abbrev wordsN : List Str := ["_law_urn", "_law_many", "_law_letters", "_law_some", "_law_k", "_law_word", "_law_free", "_law_j", "_law_sign"]
theorem scWords : FnScope wordsN ["_law_urn", "_law_many"] (defScope sWords) := ⟨rfl, rfl, rfl, by decide +kernel, rfl, by decide +kernel, by decide +kernel⟩
theorem cutS7 (z : Str) : (cutS z none (some 7)).length = min 7 z.length ∧ (Tx.Let z → Tx.Let (cutS z none (some 7))) := by
  have e : HT.sIx z.length z.length (some 7) = min 7 z.length := HT.sIx_nat z.length z.length 7
  refine ⟨?_, fun h x hx => ?_⟩
  · show (((z.cps.toList.drop (HT.sIx z.length 0 none)).take (HT.sIx z.length z.length (some 7) - HT.sIx z.length 0 none)).toArray).size = _
    rw [List.size_toArray, List.length_take, List.length_drop, e, HT.sIx_none, Array.length_toList]
    show min (min 7 z.length - 0) (z.length - 0) = _
    omega
  · have hx' : x ∈ ((z.cps.toList.drop (HT.sIx z.length 0 none)).take (HT.sIx z.length z.length (some 7) - HT.sIx z.length 0 none)) := by simpa [cutS] using hx
    exact h x (List.mem_of_mem_drop (List.mem_of_mem_take hx'))
theorem inV_str (y : Str) : ∀ ws : List Str, inV (.str y) (ws.map V.str) = decide (V.str y ∈ ws.map V.str)
  | [] => rfl
  | w :: r => by
    have ih := inV_str y r
    unfold inV at ih ⊢
    rw [List.map_cons, List.any_cons, ih]
    have e : eqV (.str w) (.str y) = decide (w = y) := by
      show (w == y) = _
      by_cases c : w = y
      · subst c; simp
      · rw [decide_eq_false c]; simpa using c
    rw [e]
    by_cases c : w = y
    · subst c
      simp
    · have c' : ¬ (V.str y = V.str w) := fun z => c (V.str.inj z).symm
      simp [c, c']
theorem strs_flat (ws : List Str) : (ws.map V.str).all flatV = true := by
  rw [List.all_eq_true]
  intro v hv
  obtain ⟨w, _, rfl⟩ := List.mem_map.mp hv
  rfl
theorem sign_app_inj (a : Str) {x y : Nat} (h : V.str (a ++ ⟨#[x]⟩) = V.str (a ++ ⟨#[y]⟩)) : x = y := by
  have e := V.str.inj h
  have e2 := congrArg (fun z : Str => z.cps.toList) e
  simp only [Tx.cps_app] at e2
  have e3 := List.append_cancel_left e2
  simpa using e3
theorem ok_words (F : Fun K "_law_words" "_law_words" sWords f fd)
    (GO : FnOk P w K mg base CX0 2 fO fdO ["_law_urn", "_law_some"] spOf) (bO : Binds K fdO ["_law_urn", "_law_some"] []) (kO : PySem.W.keepIn K (.ref fO) = true) (mO : mg "_law_of" = some (.ref fO)) (mr : mg "range" = none) :
    FnOk P w K mg base CX0 3 f fd ["_law_urn", "_law_many"] spWords := by
  refine F.ok scWords (fun vs H Q E h => ?_) (fun cdv A outer s H vs Q E hr h => ?_)
  · obtain ⟨p, q, many, rfl, _⟩ := h
    rfl
  obtain ⟨p, q, many, rfl, m8, hU, qq⟩ := h
  refine ⟨_, pss_cons (ps_asg (pe_tup (pa_cons pe_str (pa_cons (pe_lst pa_nil) pa_nil))) (pg_tup (by rfl) (pgs_cons (pg_name (i := 2) scWords.nd rfl (.inr rfl)) (pgs_cons (pg_name (i := 3) scWords.nd rfl (.inr rfl)) pgs_nil))))
    (pss_cons (ps_for PassesOwn.never rfl (pi_range1 (by rfl) mr (pa_cons (pv 1) pa_nil)) (pg_name (i := 4) scWords.nd rfl (.inl rfl))
      (pss_cons (ps_set (i := 5) scWords.nd rfl (Or.inr rfl) (pe_join pe_str (pe_lc (own := [("_law_j", 7)]) (g := gName 7) (by rfl) scWords.nd (pi_range1 (by rfl) mr (pa_cons (pe_call GO hr (by rfl) mO kO bO .nil pass0 (pa_cons (pv 0) (pa_cons (pe_lst (pa_cons pe_int (pa_cons pe_int (pa_cons pe_int (pa_cons pe_int (pa_cons pe_int (pa_cons pe_int pa_nil))))))) pa_nil))) pa_nil)) (blkOk_by (own := [("_law_j", 7)]) (N := wordsN) (sc := defScope sWords) (by decide +kernel))
        (fun _ _ _ _ _ => pg_name (i := 7) scWords.nd rfl (Or.inl rfl)) (fun _ _ _ _ _ => pts_nil) (fun _ _ _ _ _ => pe_call GO hr (by rfl) mO kO bO .nil pass0 (pa_cons (pv 0) (pa_cons (pv 2) pa_nil))))))
      (pss_cons (ps_setLc (i := 6) (own := [("_law_sign", 8)]) (g := gName 8) (by rfl) scWords.nd rfl rfl (sw_true rfl rfl rfl (by decide +kernel)) (pi_str (pv 2)) (blkOk_by (own := [("_law_sign", 8)]) (N := wordsN) (sc := defScope sWords) (by decide +kernel))
        (fun _ _ _ _ _ => pg_name (i := 8) scWords.nd rfl (Or.inl rfl)) (fun _ _ _ _ _ => pts_one (pt_cmpR (r := rIn K true) op_notIn_seq (pe_op op_add_str (pe_slice sl_str (pv 5) po_none (po_some pe_int)) (pv 8)) (pe_op op_cat (pv 3) (pe_lst (pa_cons pe_str (pa_cons pe_str (pa_cons pe_str pa_nil))))) (by rfl))) (fun _ _ _ _ _ => pe_op op_add_str (pe_slice sl_str (pv 5) po_none (po_some pe_int)) (pv 8)))
      (pss_one (ps_expr (pe_bm PySem.F.plainAttrs_list PySem.F.slot_list_append PySem.F.type_list_append mt_append (pv 3) (pa_cons (pe_ifExp (pt_cmpR op_notIn_seq (pv 5) (pe_op op_cat (pv 3) (pe_lst (pa_cons pe_str (pa_cons pe_str (pa_cons pe_str pa_nil))))) (by rfl)) (pv 5) (pe_ix ix_list (pv 6) pe_int (fun _ _ => rfl))) pa_nil)))))))
    (pss_one (ps_ret (pv 3)))), ?_⟩
  refine ⟨(by show 0 ≤ sizeLine; decide), fun Z nZ => ⟨(by rw [sizeLine_eq]; simp), fun t0 n0 => ⟨t0, _, rfl, SqT.of upd_same, rfl, _, _, rfl, _, _, rfl, rfl, ?_⟩⟩⟩
  have gZ : Same H _ := same_new nZ (.lst [])
  have g0 : Same _ _ := same_new n0 (.tup [.str abc, .ref Z])
  have nZpq := hU.nep nZ
  have s0 := gZ.trans g0
  have labc : Tx.Let abc := by unfold Tx.Let; decide +kernel
  have abc26 : abc.cps.toList = List.range' 97 26 := by decide +kernel
  refine ⟨_, rfl, (many : Int), rfl, by omega, by omega, ?_⟩
  refine for_range (lo := 0) (n := ((many : Nat) : Int).toNat) (fun i σ' H1 => ∃ (v4 v5 v6 v7 v8 : Option V) (ws : List Str), σ' = [some (.ref p), some (.int (many : Int)), some (.str abc), some (.ref Z), v4, v5, v6, v7, v8] ∧ H1 Z = some (.lst (ws.map V.str)) ∧ ws.length = i ∧ (∀ y ∈ ws, Wd y) ∧ ws.Nodup ∧ Urn H1 p q ∧ But p q H H1)
    ⟨none, none, none, none, none, [], rfl, g0 _ _ upd_same, rfl, fun y hy => (nomatch hy), List.nodup_nil, hU.same s0, But.of s0⟩ ?_ ?_
  · rintro i σ' H1 hi ⟨v4, v5, v6, v7, v8, ws, rfl, hZ, lw, wd, ndw, hU1, sb1⟩
    have i8 : i < 8 := by omega
    -- a word
    refine ⟨⟨_, rfl⟩, _, rfl, (by rw [sizeLine_eq]; simp), fun L2 n2 => ?_⟩
    have n2' := hU1.nep n2
    have g2 : Same H1 _ := same_new n2 (.lst [.int 1, .int 1, .int 2, .int 3, .int 5, .int 8])
    refine .inl ⟨p, q, L2, _, rfl, ⟨upd_same, n2'.1, n2'.2⟩, (by simp), (by simp), hU1.same g2, fun v H3 hv hU3 sb3 => ?_⟩
    obtain ⟨ln, rfl, ln1, ln8⟩ : ∃ ln : Nat, v = .int (ln : Int) ∧ 1 ≤ ln ∧ ln ≤ 8 := by
      simp only [List.mem_cons, List.mem_nil_iff, or_false] at hv
      rcases hv with rfl | rfl | rfl | rfl | rfl | rfl
      · exact ⟨1, rfl, by decide, by decide⟩
      · exact ⟨1, rfl, by decide, by decide⟩
      · exact ⟨2, rfl, by decide, by decide⟩
      · exact ⟨3, rfl, by decide, by decide⟩
      · exact ⟨5, rfl, by decide, by decide⟩
      · exact ⟨8, rfl, by decide, by decide⟩
    refine ⟨(ln : Int), rfl, by omega, by omega, fun D nD => ?_⟩
    have nDpq := hU3.nep nD
    refine lc_range (lo := 0) (n := ((ln : Nat) : Int).toNat) (fun j H4 => ∃ ys : List Str, H4 D = some (.lst (ys.map V.str)) ∧ ys.length = j ∧ (∀ y ∈ ys, y.length = 1 ∧ Tx.Let y) ∧ Urn H4 p q ∧ But p q H3 H4)
      ⟨[], upd_same, rfl, fun y hy => (nomatch hy), hU3.same (same_new nD _), But.of (same_new nD _)⟩ ?_ ?_
    · rintro j H4 hj ⟨ys, e1, e2, e3, e4, e5⟩
      refine ⟨rfl, ?_⟩
      refine ⟨_, rfl, _, rfl, .inr ⟨p, q, _, rfl, by decide +kernel, by decide +kernel, labc, e4, fun y H5 hy oy hU5 sb5 => ?_⟩⟩
      have e6 := sb5 _ _ nDpq.1 nDpq.2 e1
      refine ⟨_, e6, by rw [List.length_map]; exact small1000 (by omega), ys ++ [y], ?_, ?_, fun z hz => ?_, hU5.upd nDpq.1 nDpq.2, (e5.trans sb5).upd nD⟩
      · rw [upd_same, List.map_append]
        rfl
      · rw [List.length_append, e2]
        rfl
      · rcases List.mem_append.mp hz with hz | hz
        · exact e3 z hz
        · rw [List.mem_singleton.mp hz]
          exact ⟨hy, oy⟩
    rintro H4 ⟨ys, e1, e2, e3, hU4, sb4⟩
    have lj : (Str.join (Str.ofString "") ys).length = ys.length := join_len1 (by decide +kernel) ys fun y hy => (e3 y hy).1
    have sum1 : (ys.map (·.length)).sum = ys.length := by
      clear lj e1 e2 hU4 sb4
      induction ys with
      | nil => rfl
      | cons y r ih =>
        rw [List.map_cons, List.sum_cons, ih fun z hz => e3 z (List.mem_cons_of_mem _ hz), (e3 y (List.mem_cons_self ..)).1, List.length_cons]
        omega
    refine ⟨_, D, ys, rfl, rfl, .inl (SqL.of e1), ?_, ?_⟩
    · rw [sum1]
      show _ + _ * 0 ≤ _
      omega
    rw [show ∀ a b, Txt.join a b = Str.join a b from fun a b => PySem.StrLaws.glued_eq_join a b]
    obtain ⟨wrd, hwrd⟩ : ∃ wrd, Str.join (Str.ofString "") ys = wrd := ⟨_, rfl⟩
    have wdw : Wd wrd := by
      rw [← hwrd]
      refine ⟨by rw [lj]; omega, by rw [lj]; omega, join_let (by unfold Tx.Let; decide +kernel) ys fun y hy => (e3 y hy).2⟩
    rw [hwrd]
    have sb14 : But p q H1 H4 := (But.of g2).trans (sb3.trans sb4)
    have hZ4 : H4 Z = some (.lst (ws.map V.str)) := sb14 _ _ nZpq.1 nZpq.2 hZ
    obtain ⟨c7l, c7t⟩ := cutS7 wrd
    have wlen : wrd.length ≤ sizeLine := by rw [sizeLine_eq]; have := wdw.2.1; omega
    -- those that are free
    refine ⟨_, rfl, _, rfl, fun D2 nD2 => ?_⟩
    have nD2pq := hU4.nep nD2
    have nD2Z : Z ≠ D2 := ne_of_none hZ4 nD2
    obtain ⟨pool, hpool⟩ : ∃ pool, ws.map V.str ++ taken = pool := ⟨_, rfl⟩
    have poolE : pool = (ws ++ [Str.ofString "key", Str.ofString "many", Str.ofString "sum"]).map V.str := by
      rw [← hpool, List.map_append]
      rfl
    have poolL : pool.length ≤ 11 := by
      rw [← hpool, List.length_append, List.length_map]
      show ws.length + 3 ≤ 11
      omega
    refine lc_it (walk_str (z := abc)) (fun j H5 => ∃ fs : List Str, H5 D2 = some (.lst (fs.map V.str)) ∧ fs.length ≤ j ∧ (∀ y ∈ fs, Wd y ∧ V.str y ∉ pool) ∧ (∀ c ∈ abc.cps.toList.take j, V.str (cutS wrd none (some 7) ++ ⟨#[c]⟩) ∉ pool → fs ≠ []) ∧ Same H4 H5) ⟨[], upd_same, Nat.le_refl _, fun y hy => (nomatch hy), fun c hc => (nomatch hc), same_new nD2 _⟩ (fun _ _ _ _ => trivial) ?_ ?_
    · rintro j x H5 H6 hj ⟨fs, f1, f2, f3, f4, s5⟩ ⟨rfl, c, hc, rfl⟩
      have hc' : abc.cps.toList[j]? = some c := by rw [Array.getElem?_toList]; exact hc
      have hcl : Tx.Let ⟨#[c]⟩ := let_sign labc (List.mem_of_getElem? hc')
      have j26 : j < 26 := by
        have : j < abc.cps.toList.length := (List.getElem?_eq_some_iff.mp hc').1
        rw [abc26] at this
        simpa using this
      have hZ5 := s5 _ _ hZ4
      have lapp : (cutS wrd none (some 7)).length + (⟨#[c]⟩ : Str).length ≤ sizeLine := by
        rw [c7l, sizeLine_eq]
        show min 7 wrd.length + 1 ≤ _
        omega
      have wdn : Wd (cutS wrd none (some 7) ++ ⟨#[c]⟩) := by
        refine ⟨?_, ?_, app_let (c7t wdw.2.2) hcl⟩
        · rw [app_len]
          show 1 ≤ _ + 1
          omega
        · rw [app_len, c7l]
          show min 7 wrd.length + 1 ≤ 8
          omega
      refine ⟨rfl, _, rfl, 7, rfl, wrd, rfl, wlen, _, rfl, _, _, rfl, rfl, lapp, _, rfl, (by rw [sizeLine_eq]; simp), fun L7 n7 => ?_⟩
      have g7 : Same H6 _ := same_new n7 (.lst taken)
      refine ⟨Z, L7, _, _, rfl, rfl, g7 _ _ hZ5, upd_same, (by rw [List.length_map, sizeLine_eq]; simp; omega), fun L8 n8 => ?_⟩
      have g8 : Same _ _ := same_new n8 (.lst (ws.map V.str ++ taken))
      have g78 := g7.trans g8
      refine ⟨L8, _, rfl, .inl (SqL.of upd_same), rfl, by rw [hpool, poolE]; exact strs_flat _, _, rfl, ?_⟩
      have hin : inV (.str (cutS wrd none (some 7) ++ ⟨#[c]⟩)) (ws.map V.str ++ taken) = decide (V.str (cutS wrd none (some 7) ++ ⟨#[c]⟩) ∈ pool) := by
        rw [hpool, poolE, inV_str]
      have f1' := g78 _ _ f1
      show if (!inV (.str (cutS wrd none (some 7) ++ ⟨#[c]⟩)) (ws.map V.str ++ taken)) = true then _ else _
      rw [hin]
      by_cases cm : V.str (cutS wrd none (some 7) ++ ⟨#[c]⟩) ∈ pool
      · refine ff2 (by rw [decide_eq_true cm]; rfl) ⟨fs, f1', by omega, f3, fun c' hc2 hn => ?_, s5.trans g78⟩
        rw [List.take_add_one, hc'] at hc2
        rcases List.mem_append.mp hc2 with hc2 | hc2
        · exact f4 c' hc2 hn
        · have e : c' = c := by simpa using hc2
          rw [e] at hn
          exact absurd cm hn
      · refine tt2 (by rw [decide_eq_false cm]; rfl) ⟨_, rfl, 7, rfl, wrd, rfl, wlen, _, rfl, _, _, rfl, rfl, lapp, _, f1', by rw [List.length_map, sizeLine_eq]; omega, fs ++ [cutS wrd none (some 7) ++ ⟨#[c]⟩], ?_, ?_, fun y hy => ?_, fun c' hc2 hn => ?_, fun b o e => ?_⟩
        · rw [upd_same, List.map_append]
          rfl
        · rw [List.length_append]
          show fs.length + 1 ≤ _
          omega
        · rcases List.mem_append.mp hy with hy | hy
          · exact f3 y hy
          · rw [List.mem_singleton.mp hy]
            exact ⟨wdn, cm⟩
        · intro z
          have := congrArg List.length z
          simp at this
        · rw [upd_ne (ne_of_none e nD2)]
          exact g78 _ _ (s5 _ _ e)
    rintro H5 ⟨fs, f1, f2, f3, f4, s5⟩
    have fne : fs ≠ [] := by
      obtain ⟨c, hc, hn⟩ := not_all (l := List.range' 97 26) (xs := pool) (f := fun c => V.str (cutS wrd none (some 7) ++ ⟨#[c]⟩)) (fun a b e => sign_app_inj _ e) (List.nodup_range' ..) (by rw [List.length_range']; omega)
      refine f4 c ?_ hn
      have e3 : abc.cps.toList.take abc.cps.size = abc.cps.toList := List.take_of_length_le (by rw [Array.length_toList]; exact Nat.le_refl _)
      show c ∈ abc.cps.toList.take abc.cps.size
      rw [e3, abc26]
      exact hc
    have hZ5 := s5 _ _ hZ4
    have hU5 := hU4.same s5
    refine ⟨_, rfl, .inl ⟨rfl, _, SqL.of hZ5⟩, _, rfl, _, rfl, (by rw [sizeLine_eq]; simp), fun L7 n7 => ?_⟩
    have g7 : Same H5 _ := same_new n7 (.lst taken)
    refine ⟨Z, L7, _, _, rfl, rfl, g7 _ _ hZ5, upd_same, (by rw [List.length_map, sizeLine_eq]; simp; omega), fun L8 n8 => ?_⟩
    have g8 : Same _ _ := same_new n8 (.lst (ws.map V.str ++ taken))
    have g78 := g7.trans g8
    have hZ8 := g78 _ _ hZ5
    have sb18 : But p q H (upd (upd H5 L7 (.lst taken)) L8 (.lst (ws.map V.str ++ taken))) := sb1.trans (sb14.trans (But.of (s5.trans g78)))
    have hU8 := hU5.same g78
    refine ⟨L8, _, rfl, .inl (SqL.of upd_same), rfl, by rw [hpool, poolE]; exact strs_flat _, _, rfl, ite2 (fun cw => ?_) (fun _ => ?_)⟩
    · have nw : V.str wrd ∉ pool := by
        rw [hpool, poolE, inV_str, ← poolE] at cw
        intro z
        rw [decide_eq_true z] at cw
        cases cw
      refine ⟨_, rfl, Z, _, _, rfl, rfl, hZ8, by rw [List.length_map, sizeLine_eq]; omega, _, _, _, _, _, ws ++ [wrd], rfl, ?_, ?_, fun y hy => ?_, nodup_snoc ndw fun z => nw (hpool ▸ List.mem_append.mpr (.inl (List.mem_map.mpr ⟨_, z, rfl⟩))), hU8.upd nZpq.1 nZpq.2, sb18.upd nZ⟩
      · rw [upd_same, List.map_append]
        rfl
      · rw [List.length_append, lw]
        rfl
      · rcases List.mem_append.mp hy with hy | hy
        · exact wd y hy
        · rw [List.mem_singleton.mp hy]
          exact wdw
    · match fs, fne, f1, f3 with
      | y0 :: r, _, f1, f3 =>
        refine ⟨_, rfl, D2, _, _, .str y0, rfl, rfl, SqL.of (g78 _ _ f1), atI_nat (j := 0) rfl, Z, _, _, rfl, rfl, hZ8, by rw [List.length_map, sizeLine_eq]; omega, _, _, _, _, _, ws ++ [y0], rfl, ?_, ?_, fun y hy => ?_, nodup_snoc ndw fun z => (f3 y0 (List.mem_cons_self ..)).2 (hpool ▸ List.mem_append.mpr (.inl (List.mem_map.mpr ⟨_, z, rfl⟩))), hU8.upd nZpq.1 nZpq.2, sb18.upd nZ⟩
        · rw [upd_same, List.map_append]
          rfl
        · rw [List.length_append, lw]
          rfl
        · rcases List.mem_append.mp hy with hy | hy
          · exact wd y hy
          · rw [List.mem_singleton.mp hy]
            exact (f3 y0 (List.mem_cons_self ..)).1
  · rintro σ' H1 ⟨v4, v5, v6, v7, v8, ws, rfl, hZ, lw, wd, ndw, hU1, sb1⟩
    exact ⟨_, rfl, qq Z ws H1 nZ hZ (by omega) wd ndw hU1 sb1⟩
end
end Q20
namespace Q20
open PySem L2 Ln
/-- a step: its table, its key, what it puts (or none: it cuts), its span -/
structure Stp where
  nm : Str
  ky : Str
  wv : V
  wd : PyData
  lo : Int
  e : Int
structure Stp.Ok (s : Stp) : Prop where
  nm : Wd s.nm
  ky : Wd s.ky
  lo0 : 0 ≤ s.lo
  lt : s.lo < s.e
  le : s.e ≤ 10 ^ 12 + 1
def StepOk (H : Hp) (v : V) (s : Stp) : Prop := s.Ok ∧ ∃ t, v = .ref t ∧
  ((s.wv = .non ∧ s.wd = .none ∧ H t = some (.tup [.str "cut", .str s.nm, .str s.ky, .int s.lo, endV s.e])) ∨
   ∃ (u : Addr) (vs : List V) (ds : List PyData), s.wv = .ref u ∧ s.wd = .tuple ds ∧ H u = some (.tup vs) ∧ vs.length ≤ 4 ∧ TDs vs ds ∧ H t = some (.tup [.str "put", .str s.nm, .str s.ky, .ref u, .int s.lo, endV s.e]))
theorem StepOk.keep {H H' : Hp} {v : V} {s : Stp} (x : StepOk H v s) (k : Keep H H') : StepOk H' v s := by
  obtain ⟨ok, t, rfl, h⟩ := x
  rcases h with ⟨a, a2, b⟩ | ⟨u, vs, ds, a, a2, b, c, d, e⟩
  · exact ⟨ok, t, rfl, .inl ⟨a, a2, k _ _ b⟩⟩
  · exact ⟨ok, t, rfl, .inr ⟨u, vs, ds, a, a2, k _ _ b, c, d, k _ _ e⟩⟩
theorem StepOk.what {H : Hp} {v : V} {s : Stp} (x : StepOk H v s) : WhatOk H s.wv s.wd := by
  obtain ⟨ok, t, rfl, h⟩ := x
  rcases h with ⟨a, a2, b⟩ | ⟨u, vs, ds, a, a2, b, c, d, e⟩
  · rw [a, a2]
    exact .inl .non
  · rw [a, a2]
    exact .inr ⟨u, vs, ds, rfl, b, c, d, rfl⟩
/-- a table: its name, and how many columns -/
def TabOk (H : Hp) (v : V) (y : Str) : Prop := ∃ (t : Addr) (m : Nat), v = .ref t ∧ H t = some (.tup [.str y, .int (m : Int)]) ∧ Wd y ∧ m < 4
theorem TabOk.keep {H H' : Hp} {v : V} {y : Str} (x : TabOk H v y) (k : Keep H H') : TabOk H' v y := by
  obtain ⟨t, m, a, b, c⟩ := x
  exact ⟨t, m, a, k _ _ b, c⟩
/-- a list beside the urn -/
def Lst (H : Hp) (p q L : Addr) (xs : List V) : Prop := H L = some (.lst xs) ∧ L ≠ p ∧ L ≠ q
theorem Lst.but {H H' : Hp} {p q L : Addr} {xs : List V} (x : Lst H p q L xs) (s : But p q H H') : Lst H' p q L xs := ⟨s _ _ x.2.1 x.2.2 x.1, x.2.1, x.2.2⟩
/-- a list of words beside the urn -/
def Wds (H : Hp) (p q L : Addr) (ys : List Str) : Prop := Lst H p q L (ys.map V.str) ∧ 0 < ys.length ∧ ys.length ≤ 100 ∧ ∀ y ∈ ys, Wd y
theorem Wds.but {H H' : Hp} {p q L : Addr} {ys : List Str} (x : Wds H p q L ys) (s : But p q H H') : Wds H' p q L ys := ⟨x.1.but s, x.2⟩
def Tabs (H : Hp) (p q L : Addr) (xs : List V) (ys : List Str) : Prop := Lst H p q L xs ∧ 0 < xs.length ∧ xs.length ≤ 100 ∧ ∀ x ∈ xs, ∃ y ∈ ys, TabOk H x y
theorem Tabs.but {H H' : Hp} {p q L : Addr} {xs : List V} {ys : List Str} (x : Tabs H p q L xs ys) (u : Urn H p q) (s : But p q H H') : Tabs H' p q L xs ys := ⟨x.1.but s, x.2.1, x.2.2.1, fun v hv => let ⟨y, hy, h⟩ := x.2.2.2 v hv; ⟨y, hy, h.keep (keep_but u s)⟩⟩
theorem tds_app : ∀ {vs : List V} {ds : List PyData} {v : V} {d : PyData}, TDs vs ds → TD v d → TDs (vs ++ [v]) (ds ++ [d])
  | _, _, _, _, .nil, h => .cons h .nil
  | _, _, _, _, .cons a r, h => .cons a (tds_app r h)
end Q20
namespace Q20
open PySem L2 Ln
/-- a deed: its day and its steps -/
def DeedOk (H : Hp) (v : V) (d : Int × List Stp) : Prop := ∃ (t S : Addr) (ss : List V), v = .ref t ∧ H t = some (.tup [.int d.1, .ref S]) ∧ H S = some (.tup ss) ∧ Paired (StepOk H) ss d.2 ∧ 0 ≤ d.1 ∧ d.1 ≤ 10 ^ 12 ∧ d.2.length ≤ 4
theorem paired_mono {α β : Type} {R S : α → β → Prop} (h : ∀ a b, R a b → S a b) : ∀ {xs : List α} {ys : List β}, Paired R xs ys → Paired S xs ys
  | _, _, .nil => .nil
  | _, _, .cons a r => .cons (h _ _ a) (paired_mono h r)
theorem paired_snoc {α β : Type} {R : α → β → Prop} {a : α} {b : β} (h : R a b) : ∀ {xs : List α} {ys : List β}, Paired R xs ys → Paired R (xs ++ [a]) (ys ++ [b])
  | _, _, .nil => .cons h .nil
  | _, _, .cons x r => .cons x (paired_snoc h r)
theorem DeedOk.keep {H H' : Hp} {v : V} {d : Int × List Stp} (x : DeedOk H v d) (k : Keep H H') : DeedOk H' v d := by
  obtain ⟨t, S, ss, a, b, c, e, r⟩ := x
  exact ⟨t, S, ss, a, k _ _ b, k _ _ c, paired_mono (fun _ _ z => z.keep k) e, r⟩
theorem paired_app {α β : Type} {R : α → β → Prop} : ∀ {xs : List α} {ys : List β} {us : List α} {vs : List β}, Paired R xs ys → Paired R us vs → Paired R (xs ++ us) (ys ++ vs)
  | _, _, _, _, .nil, h => h
  | _, _, _, _, .cons a r, h => .cons a (paired_app r h)
theorem paired_in {α β : Type} {R : α → β → Prop} : ∀ {xs : List α} {ys : List β}, Paired R xs ys → ∀ y ∈ ys, ∃ x ∈ xs, R x y
  | _, _, .cons a r, y, h => by
    rcases List.mem_cons.mp h with z | z
    · exact ⟨_, List.mem_cons_self .., z ▸ a⟩
    · obtain ⟨x, h1, h2⟩ := paired_in r y z
      exact ⟨x, List.mem_cons_of_mem _ h1, h2⟩
theorem paired_at {α β : Type} {R : α → β → Prop} : ∀ {xs : List α} {ys : List β} {i : Nat} {x : α}, Paired R xs ys → xs[i]? = some x → ∃ y, ys[i]? = some y ∧ R x y
  | _, _, 0, _, .cons a _, h => by
    cases h
    exact ⟨_, rfl, a⟩
  | _, _, i + 1, _, .cons _ r, h => paired_at (i := i) r h
  | _, _, _, _, .nil, h => by simp at h
theorem short_nodup {α : Type} {l : List α} (h : l.length ≤ 1) : l.Nodup := by
  match l, h with
  | [], _ => exact List.nodup_nil
  | [_], _ => exact List.pairwise_singleton ..
theorem prod_nodup {ys zs : List Str} (h1 : ys.Nodup) (h2 : zs.Nodup) : (ys.flatMap fun y => zs.map fun z => (y, z)).Nodup := by
  induction ys with
  | nil => exact List.nodup_nil
  | cons y r ih =>
    rw [List.nodup_cons] at h1
    rw [List.flatMap_cons]
    refine List.nodup_append.mpr ⟨?_, ih h1.2, fun a ha b hb e => ?_⟩
    · exact List.pairwise_map.mpr (h2.imp fun hn e => hn (Prod.mk.inj e).2)
    · obtain ⟨z, _, rfl⟩ := List.mem_map.mp ha
      obtain ⟨y', hy', hb⟩ := List.mem_flatMap.mp hb
      obtain ⟨z', _, rfl⟩ := List.mem_map.mp hb
      have := (Prod.mk.inj e).1
      exact h1.1 (this ▸ hy')
/-- a place: a table's name and a key -/
def PlaceOk (H : Hp) (v : V) (y z : Str) : Prop := ∃ t : Addr, v = .ref t ∧ H t = some (.tup [.str y, .str z]) ∧ Wd y ∧ Wd z
theorem PlaceOk.keep {H H' : Hp} {v : V} {y z : Str} (x : PlaceOk H v y z) (k : Keep H H') : PlaceOk H' v y z := by
  obtain ⟨t, a, b, c⟩ := x
  exact ⟨t, a, k _ _ b, c⟩
theorem cut_mem {xs : List V} {lo hi : Option Int} {v : V} (h : v ∈ cutV xs lo hi) : v ∈ xs := List.mem_of_mem_drop (List.mem_of_mem_take h)
theorem cut_le (xs : List V) (k : Nat) : (cutV xs none (some (k : Int))).length ≤ k := by
  unfold cutV
  rw [HT.sIx_nat, HT.sIx_none, List.drop_zero, List.length_take]
  omega
theorem andR {c : Bool} {X Z R : Prop} (r : R) (h : R → c = true → X) : if c = true then X else (if false = true then Z else R) := by
  cases c with
  | true => exact h r rfl
  | false => exact r
end Q20
namespace Q20
open PySem L2 Ln
abbrev sNear : Stmt := top 32
abbrev nearN : List Str := ["_law_urn", "_law_tables", "_law_keys", "_law_words_here", "_law_day", "_law_many", "_law_deeds", "_law_k", "_law_steps", "_law_j", "_law_name", "_law_wide", "_law_key", "_law_low", "_law_span", "_law_worths", "_law_cut", "_law_column"]
abbrev nearP : List Str := ["_law_urn", "_law_tables", "_law_keys", "_law_words_here", "_law_day", "_law_many"]
def spNear : Sp := fun vs H Q _ => ∃ (p q T B W : Addr) (tabs : List V) (tn keys words : List Str) (day : Int) (many : Nat), vs = [.ref p, .ref T, .ref B, .ref W, .int day, .int (many : Int)] ∧ Tabs H p q T tabs tn ∧ Wds H p q B keys ∧ Wds H p q W words ∧ Urn H p q ∧ 0 ≤ day ∧ day ≤ 1000 ∧ many ≤ 20 ∧
  ∀ (A : Addr) (us : List V) (ds : List (Int × List Stp)) (H' : Hp), H' A = some (.tup us) → Paired (DeedOk H') us ds → ds.length = many → (ds.map (·.1)).Pairwise (· ≤ ·) → (∀ d ∈ ds, day ≤ d.1 ∧ d.1 ≤ day + 2 * many) → (∀ d ∈ ds, ∀ s ∈ d.2, s.ky ∈ keys) → Urn H' p q → But p q H H' → Q (.ref A) H'
section
variable {P : Program} {w : World} {K : PySem.W.Frag} {mg : Str → Option Value} {base : Heap}
variable {f fT fO : Addr} {fd fdT fdO : FuncData}
theorem scNear : FnScope nearN nearP (defScope sNear) := ⟨rfl, rfl, rfl, by decide +kernel, rfl, by decide +kernel, by decide +kernel⟩
theorem ok_near (F : Fun K "_law_near" "_law_near" sNear f fd) (GT : FnOk P w K mg base CX0 1 fT fdT ["_law_urn", "_law_many"] spTake) (bT : Binds K fdT ["_law_urn", "_law_many"] []) (kT : PySem.W.keepIn K (.ref fT) = true) (mT : mg "_law_take" = some (.ref fT))
    (GO : FnOk P w K mg base CX0 2 fO fdO ["_law_urn", "_law_some"] spOf) (bO : Binds K fdO ["_law_urn", "_law_some"] []) (kO : PySem.W.keepIn K (.ref fO) = true) (mO : mg "_law_of" = some (.ref fO))
    (mr : mg "range" = none) (mt : mg "tuple" = none) : FnOk P w K mg base CX0 3 f fd nearP spNear := by
  refine F.ok scNear (fun vs H Q E h => ?_) (fun cdv A outer s H vs Q E hr h => ?_)
  · obtain ⟨p, q, T, B, W, tabs, tn, keys, words, day, many, rfl, _⟩ := h
    rfl
  have hr1 : Room 1 _ := hr.mono (by decide)
  obtain ⟨p, q, T, B, W, tabs, tn, keys, words, day, many, rfl, hT, hB, hW, hU, dy0, dy1, m20, qq⟩ := h
  refine ⟨_, pss_cons (ps_set (i := 6) scNear.nd rfl (Or.inl rfl) (pe_lst pa_nil))
    (pss_cons (ps_for PassesOwn.never rfl (pi_range1 (by rfl) mr (pa_cons (pv 5) pa_nil)) (pg_name (i := 7) scNear.nd rfl (.inl rfl))
      (pss_cons (ps_set (i := 4) scNear.nd rfl (Or.inl rfl) (pe_op op_add (pv 4) (pe_call GO hr (by rfl) mO kO bO .nil pass0 (pa_cons (pv 0) (pa_cons (pe_lst (pa_cons pe_int (pa_cons pe_int (pa_cons pe_int (pa_cons pe_int pa_nil))))) pa_nil)))))
      (pss_cons (ps_set (i := 8) scNear.nd rfl (Or.inl rfl) (pe_lst pa_nil))
      (pss_cons (ps_for PassesOwn.never rfl (pi_range1 (by rfl) mr (pa_cons (pe_op op_add pe_int (pe_call GT hr1 (by rfl) mT kT bT .nil pass0 (pa_cons (pv 0) (pa_cons pe_int pa_nil)))) pa_nil)) (pg_name (i := 9) scNear.nd rfl (.inl rfl))
        (pss_cons (ps_asg (pe_call GO hr (by rfl) mO kO bO .nil pass0 (pa_cons (pv 0) (pa_cons (pv 1) pa_nil))) (pg_tup (by rfl) (pgs_cons (pg_name (i := 10) scNear.nd rfl (.inl rfl)) (pgs_cons (pg_name (i := 11) scNear.nd rfl (.inl rfl)) pgs_nil))))
        (pss_cons (ps_par (by rfl) scNear.nd (i := 12) (j := 13) rfl rfl (by decide) rfl rfl (pa_cons (pe_call GO hr (by rfl) mO kO bO .nil pass0 (pa_cons (pv 0) (pa_cons (pv 2) pa_nil))) (pa_cons (pe_call GT hr1 (by rfl) mT kT bT .nil pass0 (pa_cons (pv 0) (pa_cons pe_int pa_nil))) pa_nil)) (by rfl))
        (pss_cons (ps_set (i := 14) scNear.nd rfl (Or.inl rfl) (pe_tup (pa_cons (pv 13) (pa_cons (pe_call GO hr (by rfl) mO kO bO .nil pass0 (pa_cons (pv 0) (pa_cons (pe_lst (pa_cons (pe_op op_add (pv 13) pe_int) (pa_cons (pe_op op_add (pe_op op_add (pv 13) pe_int) (pe_call GT hr1 (by rfl) mT kT bT .nil pass0 (pa_cons (pv 0) (pa_cons pe_int pa_nil)))) (pa_cons pe_non pa_nil)))) pa_nil))) pa_nil))))
        (pss_cons (ps_set (i := 15) scNear.nd rfl (Or.inl rfl) (pe_callTy call_tuple_of (by rfl) mt (by decide +kernel) (pa_cons (pe_lc (own := [("_law_column", 17)]) (g := gName 17) (by rfl) scNear.nd (pi_range1 (by rfl) mr (pa_cons (pv 11) pa_nil)) (blkOk_by (own := [("_law_column", 17)]) (N := nearN) (sc := defScope sNear) (by decide +kernel))
          (fun _ _ _ _ _ => pg_name (i := 17) scNear.nd rfl (Or.inl rfl)) (fun _ _ _ _ _ => pts_nil) (fun _ _ _ _ _ => (pe_call GO hr (by rfl) mO kO bO .nil pass0 (pa_cons (pv 0) (pa_cons (pe_lst (pa_cons pe_int (pa_cons pe_int (pa_cons pe_non (pa_cons (pe_ix (r := rIxL K) ix_list (pv 3) pe_int (fun _ _ => rfl)) pa_nil))))) pa_nil))))) pa_nil)))
        (pss_cons (ps_set (i := 16) scNear.nd rfl (Or.inl rfl) (pe_cmpR op_eq (pe_call GT hr1 (by rfl) mT kT bT .nil pass0 (pa_cons (pv 0) (pa_cons pe_int pa_nil))) pe_int (nomark _)))
        (pss_one (ps_expr (pe_bm PySem.F.plainAttrs_list PySem.F.slot_list_append PySem.F.type_list_append mt_append (pv 8) (pa_cons (pe_ifExp (pt_val (pv 16)) (pe_op op_catT (pe_tup (pa_cons pe_str (pa_cons (pv 10) (pa_cons (pv 12) pa_nil)))) (pv 14)) (pe_op op_catT (pe_tup (pa_cons pe_str (pa_cons (pv 10) (pa_cons (pv 12) (pa_cons (pv 15) pa_nil))))) (pv 14))) pa_nil))))))))))
      (pss_one (ps_expr (pe_bm PySem.F.plainAttrs_list PySem.F.slot_list_append PySem.F.type_list_append mt_append (pv 6) (pa_cons (pe_tup (pa_cons (pv 4) (pa_cons (pe_callTy call_tuple_of (by rfl) mt (by decide +kernel) (pa_cons (pv 8) pa_nil)) pa_nil))) pa_nil))))))))
    (pss_one (ps_ret (pe_callTy call_tuple_of (by rfl) mt (by decide +kernel) (pa_cons (pv 6) pa_nil))))), ?_⟩
  refine ⟨(by show 0 ≤ sizeLine; decide), fun Z nZ => ?_⟩
  have nZ' := hU.nep nZ
  have gZ : Same H _ := same_new nZ (.lst [])
  refine ⟨_, rfl, (many : Int), rfl, by omega, by omega, ?_⟩
  refine for_range (lo := 0) (n := ((many : Nat) : Int).toNat) (fun i σ' H1 => ∃ (v7 v8 v9 v10 v11 v12 v13 v14 v15 v16 : Option V) (dy : Int) (us : List V) (ds : List (Int × List Stp)), σ' = [some (.ref p), some (.ref T), some (.ref B), some (.ref W), some (.int dy), some (.int (many : Int)), some (.ref Z), v7, v8, v9, v10, v11, v12, v13, v14, v15, v16, none] ∧ H1 Z = some (.lst us) ∧ us.length = i ∧ Paired (DeedOk H1) us ds ∧ (ds.map (·.1)).Pairwise (· ≤ ·) ∧ (∀ d ∈ ds, day ≤ d.1 ∧ d.1 ≤ dy) ∧ day ≤ dy ∧ dy ≤ day + 2 * i ∧ (∀ d ∈ ds, ∀ s ∈ d.2, s.ky ∈ keys) ∧ Urn H1 p q ∧ But p q H H1)
    ⟨none, none, none, none, none, none, none, none, none, none, day, [], [], rfl, upd_same, rfl, .nil, .nil, fun d hd => (nomatch hd), Int.le_refl _, by omega, fun d hd => (nomatch hd), hU.same gZ, But.of gZ⟩ ?_ ?_
  · rintro i σ' H1 hi ⟨v7, v8, v9, v10, v11, v12, v13, v14, v15, v16, dy, us, ds, rfl, hZ, lu, hD, pw, bd, d0, d1, ky, hU1, sb1⟩
    have im : i < many := by omega
    refine ⟨_, rfl, _, rfl, (by rw [sizeLine_eq]; simp), fun L0 n0 => ?_⟩
    have n0' := hU1.nep n0
    have g0 : Same H1 _ := same_new n0 (.lst [.int 0, .int 0, .int 1, .int 2])
    refine .inl ⟨p, q, L0, _, rfl, ⟨upd_same, n0'.1, n0'.2⟩, (by simp), (by simp), hU1.same g0, fun v H2 hv hU2 sb2 => ?_⟩
    obtain ⟨st, rfl, st0, st2⟩ : ∃ st : Int, v = .int st ∧ 0 ≤ st ∧ st ≤ 2 := by
      simp only [List.mem_cons, List.mem_nil_iff, or_false] at hv
      rcases hv with rfl | rfl | rfl | rfl
      · exact ⟨0, rfl, by decide, by decide⟩
      · exact ⟨0, rfl, by decide, by decide⟩
      · exact ⟨1, rfl, by decide, by decide⟩
      · exact ⟨2, rfl, by decide, by decide⟩
    refine ⟨_, _, rfl, rfl, ?_⟩
    refine ⟨(by show 0 ≤ sizeLine; decide), fun Y nY => ?_⟩
    have nY' := hU2.nep nY
    have gY : Same H2 _ := same_new nY (.lst [])
    have sb12 : But p q H1 (upd H2 Y (.lst [])) := (But.of g0).trans (sb2.trans (But.of gY))
    refine ⟨_, rfl, p, q, 3, rfl, hU2.same gY, by decide, by decide, fun r H3 r0 r3 hU3 sb3 => ⟨_, _, rfl, rfl, ?_⟩⟩
    have hY3 := sb3 _ _ nY'.1 nY'.2 (upd_same : (upd H2 Y (.lst [])) Y = some (.lst []))
    have sb13 : But p q H1 H3 := sb12.trans sb3
    refine ⟨1 + r, rfl, by omega, by omega, ?_⟩
    refine for_range (lo := 0) (n := (1 + r).toNat) (fun j σ' H4 => ∃ (v9 v10 v11 v12 v13 v14 v15 v16 : Option V) (ss : List V) (sts : List Stp), σ' = [some (.ref p), some (.ref T), some (.ref B), some (.ref W), some (.int (dy + st)), some (.int (many : Int)), some (.ref Z), some (.int (0 + (i : Nat))), some (.ref Y), v9, v10, v11, v12, v13, v14, v15, v16, none] ∧ H4 Y = some (.lst ss) ∧ ss.length = j ∧ Paired (StepOk H4) ss sts ∧ (∀ s ∈ sts, s.ky ∈ keys) ∧ Urn H4 p q ∧ But p q H1 H4)
      ⟨v9, v10, v11, v12, v13, v14, v15, v16, [], [], rfl, hY3, rfl, .nil, fun s hs => (nomatch hs), hU3, sb13⟩ ?_ ?_
    · rintro j σ' H4 hj ⟨w9, w10, w11, w12, w13, w14, w15, w16, ss, sts, rfl, hY4, ls, hS4, ks4, hU4, sb4⟩
      have j3 : j < 3 := by omega
      have hTX := (hT.but hU sb1).but hU1 sb4
      have hBX := (hB.but sb1).but sb4
      have hWX := (hW.but sb1).but sb4
      refine ⟨_, rfl, _, rfl, .inl ⟨p, q, T, tabs, rfl, hTX.1, hTX.2.1, by have := hTX.2.2.1; omega, hU4, fun v H5 hv hU5 sb5 => ?_⟩⟩
      obtain ⟨y, hyn, htab⟩ := hTX.2.2.2 v hv
      obtain ⟨t, m, rfl, ht, wy, m4⟩ := htab.keep (keep_but hU4 sb5)
      refine ⟨t, _, rfl, SqT.of ht, rfl, _, _, rfl, _, _, rfl, rfl, ?_⟩
      have hB5 := hBX.but sb5
      refine ⟨_, rfl, _, rfl, .inl ⟨p, q, B, _, rfl, hB5.1, by rw [List.length_map]; exact hB5.2.1, by rw [List.length_map]; have := hB5.2.2.1; omega, hU5, fun v H6 hv6 hU6 sb6 => ?_⟩⟩
      obtain ⟨key, hkey, rfl⟩ := List.mem_map.mp hv6
      have wk := hB.2.2.2 key hkey
      refine ⟨_, rfl, p, q, 12, rfl, hU6, by decide, by decide, fun lo H7 lo0 lo12 hU7 sb7 => ⟨_, _, rfl, ?_⟩⟩
      refine ⟨_, rfl, _, rfl, _, rfl, _, _, rfl, rfl, _, rfl, _, _, rfl, rfl, _, rfl, p, q, 12, rfl, hU7, by decide, by decide, fun r8 H8 r80 r812 hU8 sb8 => ⟨_, _, rfl, rfl, (by rw [sizeLine_eq]; simp), fun L8 n8 => ?_⟩⟩
      have n8' := hU8.nep n8
      have g8 : Same H8 _ := same_new n8 (.lst [.int (lo + 1), .int (lo + 1 + r8), .non])
      refine .inl ⟨p, q, L8, _, rfl, ⟨upd_same, n8'.1, n8'.2⟩, (by simp), (by simp), hU8.same g8, fun v H9 hv9 hU9 sb9 => ?_⟩
      obtain ⟨e, rfl, e1, e2⟩ : ∃ e : Int, v = endV e ∧ lo < e ∧ e ≤ 10 ^ 12 + 1 := by
        simp only [List.mem_cons, List.mem_nil_iff, or_false] at hv9
        rcases hv9 with rfl | rfl | rfl
        · exact ⟨lo + 1, (if_neg (by omega)).symm, by omega, by omega⟩
        · exact ⟨lo + 1 + r8, (if_neg (by omega)).symm, by omega, by omega⟩
        · exact ⟨10 ^ 12 + 1, (if_pos (by omega)).symm, by omega, by omega⟩
      refine ⟨(by rw [sizeLine_eq]; simp), fun S nS => ?_⟩
      have gS : Same H9 _ := same_new nS (.tup [.int lo, endV e])
      have hU10 := hU9.same gS
      have sb410 : But p q H4 (upd H9 S (.tup [.int lo, endV e])) := sb5.trans (sb6.trans (sb7.trans (sb8.trans ((But.of g8).trans (sb9.trans (But.of gS))))))
      refine ⟨_, rfl, (m : Int), rfl, by omega, by omega, fun D nD => ?_⟩
      have nD' := hU10.nep nD
      have hS10 : (upd H9 S (.tup [.int lo, endV e])) S = some (.tup [.int lo, endV e]) := upd_same
      refine lc_range (lo := 0) (n := (m : Int).toNat) (fun k H11 => ∃ (xs : List V) (ds : List PyData), H11 D = some (.lst xs) ∧ xs.length = k ∧ TDs xs ds ∧ Urn H11 p q ∧ But p q (upd H9 S (.tup [.int lo, endV e])) H11) ?_ ?_ ?_
      · exact ⟨[], [], upd_same, rfl, .nil, hU10.same (same_new nD _), (But.refl _).upd nD⟩
      · rintro k H11 hk ⟨xs, ds', e1', e2', e3', hU11, sb11⟩
        have hW11 := (hWX.but sb410).but sb11
        obtain ⟨y0, yr, hy0⟩ : ∃ y0 yr, words = y0 :: yr := by
          cases words with
          | nil => exact absurd hW.2.1 (by decide)
          | cons y0 yr => exact ⟨y0, yr, rfl⟩
        have hat : atI (words.map V.str) 0 = some (.str y0) := atI_nat (j := 0) (by rw [hy0]; rfl)
        refine ⟨rfl, _, rfl, _, rfl, W, _, _, .str y0, rfl, rfl, SqL.of hW11.1.1, hat, (by rw [sizeLine_eq]; simp), fun L12 n12 => ?_⟩
        have n12' := hU11.nep n12
        have g12 : Same H11 _ := same_new n12 (.lst [.int 1, .int 2, .non, .str y0])
        refine .inl ⟨p, q, L12, _, rfl, ⟨upd_same, n12'.1, n12'.2⟩, (by simp), (by simp), hU11.same g12, fun v H13 hv13 hU13 sb13' => ?_⟩
        obtain ⟨d, td⟩ : ∃ d, TD v d := by
          simp only [List.mem_cons, List.mem_nil_iff, or_false] at hv13
          have w0 := hW.2.2.2 y0 (by rw [hy0]; exact List.mem_cons_self ..)
          rcases hv13 with rfl | rfl | rfl | rfl
          · exact ⟨_, .int 1 (by decide)⟩
          · exact ⟨_, .int 2 (by decide)⟩
          · exact ⟨_, .non⟩
          · exact ⟨_, .str y0 w0.1 w0.2.1 w0.2.2⟩
        have e13 : H13 D = some (.lst xs) := sb13' D _ nD'.1 nD'.2 (g12 _ _ e1')
        refine ⟨_, e13, small1000 (by omega), xs ++ [v], ds' ++ [d], upd_same, ?_, tds_app e3' td, hU13.upd nD'.1 nD'.2, (sb11.trans ((But.of g12).trans sb13')).upd nD⟩
        rw [List.length_append, e2']
        rfl
      · rintro H11 ⟨xs, ds', e1', e2', e3', hU11, sb11⟩
        refine ⟨D, xs, rfl, .inl ⟨SqL.of e1', fun u nu => ?_⟩⟩
        have gu : Same H11 _ := same_new nu (.tup xs)
        have hU12 := hU11.same gu
        refine ⟨_, rfl, p, q, 4, rfl, hU12, by decide, by decide, fun c H13 c0 c4 hU13 sb13' => ⟨rfl, ?_⟩⟩
        have sb10 : But p q (upd H9 S (.tup [.int lo, endV e])) H13 := sb11.trans ((But.of gu).trans sb13')
        have hS13 := keep_but hU10 sb10 _ _ hS10
        have hu13 := keep_but hU12 sb13' _ _ (upd_same : (upd H11 u (.tup xs)) u = some (.tup xs))
        have sb1' : But p q H4 H13 := sb410.trans sb10
        have hY13 := sb1' _ _ nY'.1 nY'.2 hY4
        have k413 := keep_but hU4 sb1'
        refine ⟨_, rfl, .inl ⟨rfl, _, SqL.of hY13⟩, ?_⟩
        have fin : ∀ (H14 : Hp) (vt : V) (s : Stp), Same H13 H14 → StepOk H14 vt s → s.ky ∈ keys → ∃ (l : Addr) (xs : List V) (x : V), V.ref Y = .ref l ∧ [vt] = [x] ∧ H14 l = some (.lst xs) ∧ xs.length < sizeLine ∧
            ∃ (v9 v10 v11 v12 v13 v14 v15 v16 : Option V) (ss : List V) (sts : List Stp), ([some (.ref p), some (.ref T), some (.ref B), some (.ref W), some (.int (dy + st)), some (.int (many : Int)), some (.ref Z), some (.int (0 + (i : Nat))), some (.ref Y), some (.int (0 + (j : Nat))), some (.str y), some (.int (m : Int)), some (.str key), some (.int lo), some (.ref S), some (.ref u), some (.bl (decide (V.int c = V.int 0))), none] : L2.St) = [some (.ref p), some (.ref T), some (.ref B), some (.ref W), some (.int (dy + st)), some (.int (many : Int)), some (.ref Z), some (.int (0 + (i : Nat))), some (.ref Y), v9, v10, v11, v12, v13, v14, v15, v16, none] ∧ (upd H14 l (.lst (xs ++ [x]))) Y = some (.lst ss) ∧ ss.length = j + 1 ∧ Paired (StepOk (upd H14 l (.lst (xs ++ [x])))) ss sts ∧ (∀ s ∈ sts, s.ky ∈ keys) ∧ Urn (upd H14 l (.lst (xs ++ [x]))) p q ∧ But p q H1 (upd H14 l (.lst (xs ++ [x]))) := by
          intro H14 vt s0 s14 ok hk
          have hY14 := s14 _ _ hY13
          have kY : Keep H14 (upd H14 Y (.lst (ss ++ [vt]))) := fun b zs hc => by
            rw [upd_ne (ne_of hc hY14 (by intro z; cases z))]
            exact hc
          have nY1 : H1 Y = none := by
            cases e : H1 Y with
            | none => rfl
            | some o =>
              have h2 := sb2 _ _ nY'.1 nY'.2 (g0 _ _ e)
              rw [h2] at nY
              cases nY
          refine ⟨Y, ss, vt, rfl, rfl, hY14, small1000 (by omega), _, _, _, _, _, _, _, _, ss ++ [vt], sts ++ [s0], rfl, upd_same, by rw [List.length_append, ls]; rfl, paired_snoc (ok.keep kY) (paired_mono (fun _ _ z => ((z.keep k413).keep (Keep.of s14)).keep kY) hS4), fun s1 hs1 => ?_, (hU13.same s14).upd nY'.1 nY'.2, (sb4.trans (sb1'.trans (But.of s14))).upd nY1⟩
          rcases List.mem_append.mp hs1 with h | h
          · exact ks4 s1 h
          · rw [List.mem_singleton.mp h]
            exact hk
        refine ⟨_, rfl, _, rfl, ite2 (fun _ => ?_) (fun _ => ?_)⟩
        · refine ⟨_, rfl, _, rfl, (by rw [sizeLine_eq]; simp), fun t5 n5 => ⟨_, rfl, ?_⟩⟩
          have g5 : Same H13 _ := same_new n5 (.tup [.str "cut", .str y, .str key])
          refine ⟨t5, S, _, _, rfl, rfl, SqT.of upd_same, SqT.of (g5 _ _ hS13), (fun z => nomatch z), (by rw [sizeLine_eq]; simp), (fun z => nomatch z), fun _ t6 n6 => ?_⟩
          have g6 : Same _ _ := same_new n6 (.tup ([.str "cut", .str y, .str key] ++ [.int lo, endV e]))
          exact fin _ _ ⟨y, key, .non, .none, lo, e⟩ (g5.trans g6) ⟨⟨wy, wk, lo0, e1, e2⟩, t6, rfl, .inl ⟨rfl, rfl, upd_same⟩⟩ hkey
        · refine ⟨_, rfl, _, rfl, _, rfl, (by rw [sizeLine_eq]; simp), fun t5 n5 => ⟨_, rfl, ?_⟩⟩
          have g5 : Same H13 _ := same_new n5 (.tup [.str "put", .str y, .str key, .ref u])
          refine ⟨t5, S, _, _, rfl, rfl, SqT.of upd_same, SqT.of (g5 _ _ hS13), (fun z => nomatch z), (by rw [sizeLine_eq]; simp), (fun z => nomatch z), fun _ t6 n6 => ?_⟩
          have g6 : Same _ _ := same_new n6 (.tup ([.str "put", .str y, .str key, .ref u] ++ [.int lo, endV e]))
          exact fin _ _ ⟨y, key, .ref u, .tuple ds', lo, e⟩ (g5.trans g6) ⟨⟨wy, wk, lo0, e1, e2⟩, t6, rfl, .inr ⟨u, xs, ds', rfl, rfl, g6 _ _ (g5 _ _ hu13), by omega, e3', upd_same⟩⟩ hkey
    · rintro σ' H4 ⟨w9, w10, w11, w12, w13, w14, w15, w16, ss, sts, rfl, hY4, ls, hS4, ks4, hU4, sb4⟩
      have hZ4 := sb4 _ _ nZ'.1 nZ'.2 hZ
      refine ⟨_, rfl, .inl ⟨rfl, _, SqL.of hZ4⟩, _, rfl, _, rfl, Y, ss, rfl, .inl ⟨SqL.of hY4, fun S nS => ⟨(by rw [sizeLine_eq]; simp), fun t nt => ?_⟩⟩⟩
      have gS : Same H4 _ := same_new nS (.tup ss)
      have gt : Same _ _ := same_new nt (.tup [.int (dy + st), .ref S])
      have hZ5 := gt _ _ (gS _ _ hZ4)
      have kZ : Keep _ (upd (upd (upd H4 S (.tup ss)) t (.tup [.int (dy + st), .ref S])) Z (.lst (us ++ [.ref t]))) := fun b zs hc => by
        rw [upd_ne (ne_of hc hZ5 (by intro z; cases z))]
        exact hc
      have k45 := ((Keep.of gS).trans (Keep.of gt)).trans kZ
      have k15 := (keep_but hU1 sb4).trans k45
      have lst : sts.length ≤ 4 := by rw [← Paired.length hS4]; omega
      refine ⟨Z, us, _, rfl, rfl, hZ5, small1000 (by omega), _, _, _, _, _, _, _, _, _, _, dy + st, us ++ [.ref t], ds ++ [(dy + st, sts)], rfl, upd_same, by rw [List.length_append, lu]; rfl, ?_, ?_, ?_, by omega, by omega, ?_, ((hU4.same gS).same gt).upd nZ'.1 nZ'.2, (sb1.trans (sb4.trans (But.of (gS.trans gt)))).upd nZ⟩
      · exact paired_snoc ⟨t, S, ss, rfl, kZ _ _ upd_same, kZ _ _ (gt _ _ upd_same), paired_mono (fun _ _ c => c.keep k45) hS4, by omega, by omega, lst⟩ (paired_mono (fun _ _ c => c.keep k15) hD)
      · rw [List.map_append, List.pairwise_append]
        refine ⟨pw, List.pairwise_singleton .., fun a ha b hb => ?_⟩
        obtain ⟨d, hd, rfl⟩ := List.mem_map.mp ha
        have := (bd d hd).2
        have e : b = dy + st := by simpa using hb
        omega
      · intro d hd
        rcases List.mem_append.mp hd with h | h
        · have := bd d h
          omega
        · rw [List.mem_singleton.mp h]
          show day ≤ dy + st ∧ dy + st ≤ dy + st
          omega
      · intro d hd
        rcases List.mem_append.mp hd with h | h
        · exact ky d h
        · rw [List.mem_singleton.mp h]
          exact ks4
  · rintro σ' H1 ⟨v7, v8, v9, v10, v11, v12, v13, v14, v15, v16, dy, us, ds, rfl, hZ, lu, hD, pw, bd, d0, d1, ky, hU1, sb1⟩
    refine ⟨_, rfl, Z, us, rfl, .inl ⟨SqL.of hZ, fun A nA => ?_⟩⟩
    have gA : Same H1 _ := same_new nA (.tup us)
    have ld : ds.length = many := by rw [← Paired.length hD, lu]; omega
    refine qq A us ds _ upd_same (paired_mono (fun _ _ c => c.keep (Keep.of gA)) hD) ld pw (fun d hd => ?_) ky (hU1.same gA) (sb1.trans (But.of gA))
    have := bd d hd
    omega
end
end Q20
namespace Q20
open PySem L2 L2.Gd L2.SetL Ln
abbrev sEarly : Stmt := top 8
abbrev sClip : Stmt := top 7
abbrev sJoin : Stmt := top 9
abbrev sPaint : Stmt := top 6
def spEarly : Sp := fun vs H Q _ => ∃ a b : Int, vs = [endV a, endV b] ∧ a ≤ 10 ^ 12 + 1 ∧ b ≤ 10 ^ 12 + 1 ∧ Q (endV (min a b)) H
def spClip : Sp := fun vs H Q _ => ∃ (T : Addr) (a b : Int) (cs : List V) (qs : List Pt), vs = [.ref T, .int a, endV b] ∧ H T = some (.tup cs) ∧ Pts H cs qs ∧ qs.length ≤ 10000 ∧ 0 ≤ a ∧ a ≤ 10 ^ 12 ∧ b ≤ 10 ^ 12 + 1 ∧
  ∀ (L : Addr) (bs : List V) (H' : Hp), H L = none → H' L = some (.lst bs) → Pts H' bs (clip a b qs) → Same H H' → Q (.ref L) H'
def spJoin : Sp := fun vs H Q _ => ∃ (L : Addr) (bs : List V) (ps : List Pt), vs = [.ref L] ∧ H L = some (.lst bs) ∧ Pts H bs ps ∧ Rise ps ∧ (∀ p ∈ ps, p.r ≠ nonR) ∧ ps.length ≤ 30000 ∧
  ∀ (T : Addr) (cs : List V) (H' : Hp), H T = none → H' T = some (.tup cs) → Pts H' cs (ps.foldl joinStep []).reverse → Same H H' → Q (.ref T) H'
def spPaint : Sp := fun vs H Q _ => ∃ (T : Addr) (wv : V) (d : PyData) (low h : Int) (cs : List V) (qs : List Pt), vs = [.ref T, wv, .int low, endV h] ∧ H T = some (.tup cs) ∧ Pts H cs qs ∧ Can qs.reverse ∧ qs.length ≤ 9000 ∧ WhatOk H wv d ∧ 0 ≤ low ∧ low < h ∧ h ≤ 10 ^ 12 + 1 ∧
  ∀ (T' : Addr) (cs' : List V) (qs' : List Pt) (H' : Hp), H' T' = some (.tup cs') → Pts H' cs' qs' → Can qs'.reverse → (∀ x, textAt qs'.reverse x = if low ≤ x ∧ x < h then d.shown else textAt qs.reverse x) → qs'.length ≤ qs.length + 2 → Same H H' → Q (.ref T') H'
theorem pts_full {H : Hp} {bs : List V} {ps : List Pt} (h : Pts H bs ps) (hv : ∀ p ∈ ps, p.v ≠ .non) : ∀ p ∈ ps, p.r ≠ nonR := fun p hp => pts_solid h p hp (hv p hp)
theorem full_v {H : Hp} {bs : List V} {ps : List Pt} (h : Pts H bs ps) (hr : ∀ p ∈ ps, p.r ≠ nonR) : ∀ p ∈ ps, p.v ≠ .non := fun p hp e => hr p hp (pts_plain h p hp e)
theorem _root_.Ln.WhatOk.shape {H : Hp} {v : V} {d : PyData} (x : WhatOk H v d) : SeqAt.shaped d = true := by
  obtain ⟨_, _, f3, _, f5⟩ := x.facts
  exact Bool.and_eq_true_iff.mpr ⟨f5, decide_eq_true (by omega)⟩
section
variable {P : Program} {w : World} {K : PySem.W.Frag} {mg : Str → Option Value} {base : Heap}
variable {f fE fC fJ : Addr} {fd fdE fdC fdJ : FuncData}
theorem scEarly : FnScope ["one", "other"] ["one", "other"] (defScope sEarly) := ⟨rfl, rfl, rfl, by decide +kernel, rfl, by decide +kernel, by decide +kernel⟩
theorem ok_early (F : Fun K "earlier_end" "earlier_end" sEarly f fd) (mi : mg "min" = none) : FnOk P w K mg base CX0 1 f fd ["one", "other"] spEarly := by
  refine F.ok scEarly (fun vs H Q E h => ?_) (fun cdv A outer s H vs Q E hr h => ?_)
  · obtain ⟨a, b, rfl, _⟩ := h
    rfl
  obtain ⟨a, b, rfl, ha, hb, q⟩ := h
  refine ⟨_, pss_cons (ps_if (pt_cmp (pc_isN (pv 0))) (pss_one (ps_ret (pv 1))) pss_nil)
    (pss_cons (ps_if (pt_cmp (pc_isN (pv 1))) (pss_one (ps_ret (pv 0))) pss_nil)
    (pss_one (ps_ret (pe_callB (call_min2 rfl) (by rfl) mi (by decide +kernel) (pa_cons (pv 0) (pa_cons (pv 1) pa_nil)))))), ?_⟩
  refine ⟨endV a, rfl, _, rfl, ?_⟩
  by_cases c1 : a > 10 ^ 12
  · have e1 : endV a = .non := if_pos c1
    rw [e1]
    refine iteT ⟨_, rfl, ?_⟩
    rw [show min a b = b by omega] at q
    exact q
  · have e1 : endV a = .int a := if_neg c1
    rw [e1]
    refine iteF ⟨endV b, rfl, _, rfl, ?_⟩
    by_cases c2 : b > 10 ^ 12
    · have e2 : endV b = .non := if_pos c2
      rw [e2]
      refine iteT ⟨_, rfl, ?_⟩
      rw [show min a b = a by omega, e1] at q
      exact q
    · have e2 : endV b = .int b := if_neg c2
      rw [e2]
      refine iteF ⟨_, rfl, _, rfl, _, _, rfl, ?_⟩
      have e3 : endV (min a b) = .int (if b < a then b else a) := by
        unfold endV
        rw [if_neg (by omega)]
        refine congrArg V.int ?_
        split <;> omega
      rw [e3] at q
      exact q
theorem scClip : FnScope ["line", "low", "high", "pieces", "start", "end", "what", "first", "last"] ["line", "low", "high"] (defScope sClip) := ⟨rfl, rfl, rfl, by decide +kernel, rfl, by decide +kernel, by decide +kernel⟩
theorem clip_take {a b : Int} {qs : List Pt} {i : Nat} {p : Pt} (h : qs[i]? = some p) : clip a b (qs.take (i + 1)) = clip a b (qs.take i) ++ (clipP a b p).toList := by
  unfold clip
  rw [List.take_add_one, h, List.filterMap_append]
  congr 1
theorem ok_clip (F : Fun K "clipped" "clipped" sClip f fd) (GE : FnOk P w K mg base CX0 1 fE fdE ["one", "other"] spEarly) (bE : Binds K fdE ["one", "other"] []) (kE : PySem.W.keepIn K (.ref fE) = true) (mE : mg "earlier_end" = some (.ref fE)) (mx : mg "max" = none) :
    FnOk P w K mg base CX0 2 f fd ["line", "low", "high"] spClip := by
  refine F.ok scClip (fun vs H Q E h => ?_) (fun cdv A outer s H vs Q E hr h => ?_)
  · obtain ⟨T, a, b, cs, qs, rfl, _⟩ := h
    rfl
  obtain ⟨T, a, b, cs, qs, rfl, hT, hP, hl, a0, a1, b1, q⟩ := h
  refine ⟨_, pss_cons (ps_set (i := 3) scClip.nd rfl (Or.inl rfl) (pe_lst pa_nil))
    (pss_cons (ps_for PassesOwn.never rfl (pi_tup (pv 0)) (pg_tup rfl (pgs_cons (pg_name (i := 4) scClip.nd rfl (.inl rfl)) (pgs_cons (pg_name (i := 5) scClip.nd rfl (.inl rfl)) (pgs_cons (pg_name (i := 6) scClip.nd rfl (.inl rfl)) pgs_nil))))
      (pss_cons (ps_set (i := 7) scClip.nd rfl (Or.inl rfl) (pe_callB (call_max2 rfl) (by rfl) mx (by decide +kernel) (pa_cons (pv 4) (pa_cons (pv 1) pa_nil))))
      (pss_cons (ps_set (i := 8) scClip.nd rfl (Or.inl rfl) (pe_call GE hr (by rfl) mE kE bE .nil pass0 (pa_cons (pv 5) (pa_cons (pv 2) pa_nil))))
      (pss_one (ps_if (PW.pt (pw_or (pt_cmp (pc_isN (pv 8))) (pw_or1 (pt_cmpR op_lt (pv 7) (pv 8) (nomark _)))))
        (pss_one (ps_expr (pe_bm PySem.F.plainAttrs_list PySem.F.slot_list_append PySem.F.type_list_append mt_append (pv 3) (pa_cons (pe_tup (pa_cons (pv 7) (pa_cons (pv 8) (pa_cons (pv 6) pa_nil)))) pa_nil)))) pss_nil)))))
    (pss_one (ps_ret (pv 3)))), ?_⟩
  refine ⟨(by show 0 ≤ sizeLine; decide), fun Z nZ => ?_⟩
  have len := pts_len hP
  refine ⟨_, rfl, T, rfl, ⟨_, SqT.of (same_new nZ _ _ _ hT)⟩, for_tup (K := K) (a := T) (xs := cs) (fun i σ' H1 => ∃ v4 v5 v6 v7 v8 bs, σ' = [some (.ref T), some (.int a), some (endV b), some (.ref Z), v4, v5, v6, v7, v8] ∧ H1 Z = some (.lst bs) ∧ Pts H1 bs (clip a b (qs.take i)) ∧ Same H H1)
    ⟨none, none, none, none, none, [], rfl, upd_same, .nil, same_new nZ _⟩ (fun i σ' H1 _ ⟨_, _, _, _, _, _, _, _, _, s1⟩ => SqT.of (s1 _ _ hT)) ?_ ?_⟩
  · rintro i c σ' H1 hi ⟨v4, v5, v6, v7, v8, bs, rfl, hZ, hPz, s1⟩
    obtain ⟨p, hp, ok⟩ := pts_at hP hi
    obtain ⟨t, rfl, ht⟩ := ok.at_
    obtain ⟨d, hd, hrd⟩ := ok.what
    have o1 := ok.lo0
    have o2 := ok.lt
    have o3 := ok.top_
    have hil : i < 10000 := by
      have := (List.getElem?_eq_some_iff.mp hp).1
      omega
    refine ⟨t, _, rfl, SqT.of (s1 _ _ ht), rfl, _, _, rfl, _, _, rfl, _, _, rfl, rfl, ?_⟩
    refine ⟨_, rfl, _, rfl, _, _, rfl, ?_⟩
    have mx : (if a > p.lo then a else p.lo) = max p.lo a := by split <;> omega
    rw [mx]
    refine ⟨_, rfl, _, rfl, p.e, b, rfl, o3, b1, ?_⟩
    refine ⟨endV (min p.e b), rfl, _, rfl, ?_⟩
    have yes : max p.lo a < min p.e b → ∀ H2 : Hp, H2 = H1 → ∀ t2, H2 t2 = none → ∃ (l : Addr) (xs : List V) (x : V), V.ref Z = .ref l ∧ [V.ref t2] = [x] ∧ (upd H2 t2 (.tup [.int (max p.lo a), endV (min p.e b), p.v])) l = some (.lst xs) ∧ xs.length < sizeLine ∧
        ∃ v4 v5 v6 v7 v8 bs, [some (V.ref T), some (.int a), some (endV b), some (.ref Z), some (.int p.lo), some (endV p.e), some p.v, some (.int (max p.lo a)), some (endV (min p.e b))] = [some (V.ref T), some (.int a), some (endV b), some (.ref Z), v4, v5, v6, v7, v8] ∧
          (upd (upd H2 t2 (.tup [.int (max p.lo a), endV (min p.e b), p.v])) l (.lst (xs ++ [x]))) Z = some (.lst bs) ∧ Pts (upd (upd H2 t2 (.tup [.int (max p.lo a), endV (min p.e b), p.v])) l (.lst (xs ++ [x]))) bs (clip a b (qs.take (i + 1))) ∧ Same H (upd (upd H2 t2 (.tup [.int (max p.lo a), endV (min p.e b), p.v])) l (.lst (xs ++ [x]))) := by
      intro c H2 e2 t2 nt
      subst e2
      have g : Same H2 _ := same_new nt (.tup [.int (max p.lo a), endV (min p.e b), p.v])
      have hZ2 := g _ _ hZ
      have kz : Keep _ (upd (upd H2 t2 (.tup [.int (max p.lo a), endV (min p.e b), p.v])) Z (.lst (bs ++ [.ref t2]))) := fun c zs hc => by
        rw [upd_ne (ne_of hc hZ2 (by intro z; cases z))]
        exact hc
      have cp : clipP a b p = some ⟨max p.lo a, min p.e b, p.v, p.r⟩ := if_pos c
      refine ⟨Z, bs, _, rfl, rfl, hZ2, ?_, _, _, _, _, _, bs ++ [.ref t2], rfl, upd_same, ?_, fun c o e => ?_⟩
      · rw [pts_len hPz]
        have := clip_len a b (qs.take i)
        rw [List.length_take] at this
        rw [sizeLine_eq]
        omega
      · rw [clip_take hp, cp]
        exact pts_app (pts_keep ((Keep.of g).trans kz) hPz) (.cons ⟨⟨t2, rfl, kz _ _ upd_same⟩, ⟨d, ((hd.keep (Keep.of s1)).keep (Keep.of g)).keep kz, hrd⟩, by dsimp only; omega, c, by dsimp only; omega⟩ .nil)
      · rw [upd_ne (ne_of_none e nZ)]
        exact g _ _ (s1 _ _ e)
    have no : ¬ max p.lo a < min p.e b → Pts H1 bs (clip a b (qs.take (i + 1))) := fun c => by
      have cp : clipP a b p = none := if_neg c
      rw [clip_take hp, cp]
      simpa using hPz
    by_cases c2 : min p.e b > 10 ^ 12
    · have ev : endV (min p.e b) = .non := if_pos c2
      have y := yes (by omega) H1 rfl
      rw [ev] at y ⊢
      refine iteT (iteT ?_)
      refine ⟨_, rfl, .inl ⟨rfl, _, SqL.of hZ⟩, _, rfl, _, rfl, _, rfl, (by rw [sizeLine_eq]; simp), fun t2 nt => ?_⟩
      exact y t2 nt
    · have ev : endV (min p.e b) = .int (min p.e b) := if_neg c2
      have y := yes
      rw [ev] at y ⊢
      refine iteF ⟨_, rfl, _, rfl, _, _, rfl, rfl, _, rfl, ite2 (fun c => ?_) (fun c => ?_)⟩
      · refine ⟨_, rfl, .inl ⟨rfl, _, SqL.of hZ⟩, _, rfl, _, rfl, _, rfl, (by rw [sizeLine_eq]; simp), fun t2 nt => ?_⟩
        exact y (of_decide_eq_true c) H1 rfl t2 nt
      · exact ⟨_, _, _, _, _, bs, rfl, hZ, no fun z => c (decide_eq_true z), s1⟩
  · rintro σ' H1 ⟨v4, v5, v6, v7, v8, bs, rfl, hZ, hPz, s1⟩
    rw [len, List.take_length] at hPz
    exact ⟨_, rfl, q Z bs H1 nZ hZ hPz s1⟩
theorem scJoin : FnScope ["pieces", "line", "low", "high", "what"] ["pieces"] (defScope sJoin) := ⟨rfl, rfl, rfl, by decide +kernel, rfl, by decide +kernel, by decide +kernel⟩
theorem fold_take {α : Type} {g : List α → α → List α} {l : List α} {i : Nat} {x : α} (h : l[i]? = some x) : (l.take (i + 1)).foldl g [] = g ((l.take i).foldl g []) x := by
  rw [List.take_add_one, h, List.foldl_append]
  rfl
theorem join_yes {q p : Pt} {rest : List Pt} (h1 : q.e = p.lo) (h2 : q.r = p.r) : joinStep (q :: rest) p = ⟨q.lo, p.e, p.v, p.r⟩ :: rest := by
  show (if q.e = p.lo ∧ q.r = p.r then _ else _) = _
  rw [if_pos ⟨h1, h2⟩]
theorem join_no {acc : List Pt} {p : Pt} (h : ∀ q rest, acc = q :: rest → ¬ (q.e = p.lo ∧ q.r = p.r)) : joinStep acc p = p :: acc := by
  cases acc with
  | nil => rfl
  | cons q rest =>
    show (if q.e = p.lo ∧ q.r = p.r then _ else _) = _
    rw [if_neg (h q rest rfl)]
theorem joinStep_len (acc : List Pt) (p : Pt) : (joinStep acc p).length ≤ acc.length + 1 := by
  cases acc with
  | nil => exact Nat.le_refl _
  | cons q rest =>
    show (if q.e = p.lo ∧ q.r = p.r then _ else _ : List Pt).length ≤ _
    split <;> simp
theorem ok_join (F : Fun K "joined" "joined" sJoin f fd) (mt : mg "tuple" = none) : FnOk P w K mg base CX0 1 f fd ["pieces"] spJoin := by
  refine F.ok scJoin (fun vs H Q E h => ?_) (fun cdv A outer s H vs Q E hr h => ?_)
  · obtain ⟨L, bs, ps, rfl, _⟩ := h
    rfl
  obtain ⟨L, bs, ps, rfl, hL, hP, rise, full, hl, q⟩ := h
  have hu := hr.units
  refine ⟨_, pss_cons (ps_set (i := 1) scJoin.nd rfl (Or.inl rfl) (pe_lst pa_nil))
    (pss_cons (ps_for PassesOwn.never rfl (pi_list (pv 0)) (pg_tup rfl (pgs_cons (pg_name (i := 2) scJoin.nd rfl (.inl rfl)) (pgs_cons (pg_name (i := 3) scJoin.nd rfl (.inl rfl)) (pgs_cons (pg_name (i := 4) scJoin.nd rfl (.inl rfl)) pgs_nil))))
      (pss_one (ps_if (PW.pt (pw_and (pt_truth (pv 1) (fun _ => rfl)) (pw_and (pt_cmpR op_eq (pe_ix ix_tup (pe_ix ix_list (pv 1) (pe_un un_neg pe_int) (fun _ _ => rfl)) pe_int (fun _ _ => rfl)) (pv 2) (nomark _))
          (pw_and1 (pt_cmpR (op_eqD hu) (pe_ix ix_tup (pe_ix ix_list (pv 1) (pe_un un_neg pe_int) (fun _ _ => rfl)) pe_int (fun _ _ => rfl)) (pv 4) (nomark _))))))
        (pss_one (ps_asg (pe_tup (pa_cons (pe_ix ix_tup (pe_ix ix_list (pv 1) (pe_un un_neg pe_int) (fun _ _ => rfl)) pe_int (fun _ _ => rfl)) (pa_cons (pv 3) (pa_cons (pv 4) pa_nil)))) (pg_sub (pv 1) (pe_un un_neg pe_int) set_list)))
        (pss_one (ps_expr (pe_bm PySem.F.plainAttrs_list PySem.F.slot_list_append PySem.F.type_list_append mt_append (pv 1) (pa_cons (pe_tup (pa_cons (pv 2) (pa_cons (pv 3) (pa_cons (pv 4) pa_nil)))) pa_nil)))))))
    (pss_one (ps_ret (pe_callTy call_tuple_of (by rfl) mt (by decide +kernel) (pa_cons (pv 1) pa_nil))))), ?_⟩
  refine ⟨(by show 0 ≤ sizeLine; decide), fun Z nZ => ?_⟩
  have len := pts_len hP
  refine ⟨_, rfl, L, rfl, ⟨_, SqL.of (same_new nZ _ _ _ hL)⟩, for_list (K := K) (a := L) (xs := bs) (fun i σ' H1 => ∃ v2 v3 v4 acc cs, σ' = [some (.ref L), some (.ref Z), v2, v3, v4] ∧ acc = (ps.take i).foldl joinStep [] ∧ H1 Z = some (.lst cs) ∧ Pts H1 cs acc.reverse ∧ acc.length ≤ i ∧ Same H H1)
    ⟨none, none, none, [], [], rfl, rfl, upd_same, .nil, Nat.le_refl _, same_new nZ _⟩ (fun i σ' H1 _ ⟨_, _, _, _, _, _, _, _, _, _, s1⟩ => SqL.of (s1 _ _ hL)) ?_ ?_⟩
  · rintro i b σ' H1 hi ⟨v2, v3, v4, acc, cs, rfl, hacc, hZ, hPz, hlen, s1⟩
    obtain ⟨p, hp, ok⟩ := pts_at hP hi
    obtain ⟨t, rfl, ht⟩ := ok.at_
    obtain ⟨d, hd, hrd⟩ := ok.what
    have hil : i < 30000 := by
      have := (List.getElem?_eq_some_iff.mp hp).1
      omega
    have hacc2 : (ps.take (i + 1)).foldl joinStep [] = joinStep acc p := by rw [fold_take hp, hacc]
    have lcs : cs.length = acc.length := by rw [pts_len hPz, List.length_reverse]
    have hd1 := hd.keep (Keep.of s1)
    have addp : joinStep acc p = p :: acc → ∀ t2, H1 t2 = none → ∃ (l : Addr) (xs : List V) (x : V), V.ref Z = .ref l ∧ [V.ref t2] = [x] ∧ (upd H1 t2 (.tup [.int p.lo, endV p.e, p.v])) l = some (.lst xs) ∧ xs.length < sizeLine ∧
        ∃ v2 v3 v4 acc' cs, [some (V.ref L), some (.ref Z), some (.int p.lo), some (endV p.e), some p.v] = [some (V.ref L), some (.ref Z), v2, v3, v4] ∧ acc' = (ps.take (i + 1)).foldl joinStep [] ∧ (upd (upd H1 t2 (.tup [.int p.lo, endV p.e, p.v])) l (.lst (xs ++ [x]))) Z = some (.lst cs) ∧
          Pts (upd (upd H1 t2 (.tup [.int p.lo, endV p.e, p.v])) l (.lst (xs ++ [x]))) cs acc'.reverse ∧ acc'.length ≤ i + 1 ∧ Same H (upd (upd H1 t2 (.tup [.int p.lo, endV p.e, p.v])) l (.lst (xs ++ [x]))) := by
      intro ej t2 nt
      have g : Same H1 _ := same_new nt (.tup [.int p.lo, endV p.e, p.v])
      have hZ2 := g _ _ hZ
      have kz : Keep _ (upd (upd H1 t2 (.tup [.int p.lo, endV p.e, p.v])) Z (.lst (cs ++ [.ref t2]))) := fun c zs hc => by
        rw [upd_ne (ne_of hc hZ2 (by intro z; cases z))]
        exact hc
      refine ⟨Z, cs, _, rfl, rfl, hZ2, ?_, _, _, _, p :: acc, cs ++ [.ref t2], rfl, ?_, upd_same, ?_, ?_, fun c o e => ?_⟩
      · rw [lcs, sizeLine_eq]
        omega
      · rw [hacc2, ej]
      · rw [List.reverse_cons]
        exact pts_app (pts_keep ((Keep.of g).trans kz) hPz) (.cons ⟨⟨t2, rfl, kz _ _ upd_same⟩, ⟨d, (hd1.keep (Keep.of g)).keep kz, hrd⟩, ok.lo0, ok.lt, ok.top_⟩ .nil)
      · rw [List.length_cons]
        omega
      · rw [upd_ne (ne_of_none e nZ)]
        exact g _ _ (s1 _ _ e)
    refine ⟨t, _, rfl, SqT.of (s1 _ _ ht), rfl, _, _, rfl, _, _, rfl, _, _, rfl, rfl, ?_⟩
    refine ⟨_, rfl, !cs.isEmpty, .inl ⟨cs, SqL.of hZ, rfl⟩, ?_⟩
    cases acc with
    | nil =>
      have c0 : cs = [] := List.length_eq_zero_iff.mp lcs
      subst c0
      refine ff2 rfl (ff2 rfl ?_)
      refine ⟨_, rfl, .inl ⟨rfl, _, SqL.of hZ⟩, _, rfl, _, rfl, _, rfl, (by rw [sizeLine_eq]; simp), fun t2 nt => ?_⟩
      exact addp rfl t2 nt
    | cons q0 rest =>
      have hPz0 := hPz
      rw [List.reverse_cons] at hPz
      obtain ⟨cs0, c, rfl, hp0, okq⟩ := pts_snoc hPz
      refine tt2 (by simp) ?_
      obtain ⟨aq, rfl, haq⟩ := okq.at_
      obtain ⟨dq, hdq, hrq⟩ := okq.what
      refine ⟨_, rfl, _, rfl, Z, _, _, _, rfl, rfl, SqL.of hZ, atI_last cs0 (.ref aq), aq, _, _, _, rfl, rfl, SqT.of haq, rfl, _, rfl, ?_, _, rfl, ?_⟩
      · unfold endV
        split <;> rfl
      have lo1 : ¬ p.lo > 10 ^ 12 := by
        have := ok.lt
        have := ok.top_
        omega
      by_cases he : q0.e = p.lo
      · have ev : endV q0.e = .int p.lo := by
          rw [he]
          exact if_neg lo1
        refine tt2 (decide_eq_true ev) ?_
        refine ⟨_, rfl, _, rfl, Z, _, _, _, rfl, rfl, SqL.of hZ, atI_last cs0 (.ref aq), aq, _, _, _, rfl, rfl, SqT.of haq, rfl, _, rfl, dq, d, hdq.dp, hd1.dp, hdq.shape, hd1.shape, _, rfl, ?_⟩
        rw [Tx.eqv_shown hdq.sd hd.sd, ← hrq, ← hrd]
        by_cases hr2 : q0.r = p.r
        · refine tt2 (decide_eq_true hr2) ?_
          refine ⟨_, rfl, _, rfl, Z, _, _, _, rfl, rfl, SqL.of hZ, atI_last cs0 (.ref aq), aq, _, _, _, rfl, rfl, SqT.of haq, rfl, _, rfl, _, rfl, (by rw [sizeLine_eq]; simp), fun t2 nt => ?_⟩
          have g : Same H1 _ := same_new nt (.tup [.int q0.lo, endV p.e, p.v])
          have hZ2 := g _ _ hZ
          refine ⟨_, rfl, _, rfl, Z, _, _, cs0.length, rfl, rfl, hZ2, ?_, ?_⟩
          · unfold ixN
            rw [List.length_append, List.length_singleton]
            rw [if_neg (by omega), if_pos (by omega)]
            congr 1
            omega
          have st : (cs0 ++ [V.ref aq]).set cs0.length (.ref t2) = cs0 ++ [.ref t2] := by
            rw [List.set_append_right _ _ (Nat.le_refl _), Nat.sub_self]
            rfl
          rw [st]
          have kz : Keep _ (upd (upd H1 t2 (.tup [.int q0.lo, endV p.e, p.v])) Z (.lst (cs0 ++ [.ref t2]))) := fun c zs hc => by
            rw [upd_ne (ne_of hc hZ2 (by intro z; cases z))]
            exact hc
          refine ⟨_, _, _, ⟨q0.lo, p.e, p.v, p.r⟩ :: rest, cs0 ++ [.ref t2], rfl, ?_, upd_same, ?_, ?_, fun c o e => ?_⟩
          · rw [hacc2, join_yes he hr2]
          · rw [List.reverse_cons]
            refine pts_app (pts_keep ((Keep.of g).trans kz) hp0) (.cons ⟨⟨t2, rfl, kz _ _ upd_same⟩, ⟨d, (hd1.keep (Keep.of g)).keep kz, hrd⟩, okq.lo0, ?_, ok.top_⟩ .nil)
            have := okq.lt
            have := ok.lt
            show q0.lo < p.e
            omega
          · have := hlen
            simp only [List.length_cons] at this ⊢
            omega
          · rw [upd_ne (ne_of_none e nZ)]
            exact g _ _ (s1 _ _ e)
        · refine ff2 (decide_eq_false hr2) ?_
          refine ⟨_, rfl, .inl ⟨rfl, _, SqL.of hZ⟩, _, rfl, _, rfl, _, rfl, (by rw [sizeLine_eq]; simp), fun t2 nt => ?_⟩
          exact addp (join_no fun q r e => by cases e; exact fun z => hr2 z.2) t2 nt
      · refine ff2 (decide_eq_false (fun z => he ?_)) (ff2 rfl ?_)
        · unfold endV at z
          split at z
          · cases z
          · exact V.int.inj z
        refine ⟨_, rfl, .inl ⟨rfl, _, SqL.of hZ⟩, _, rfl, _, rfl, _, rfl, (by rw [sizeLine_eq]; simp), fun t2 nt => ?_⟩
        exact addp (join_no fun q r e => by cases e; exact fun z => he z.1) t2 nt
  · rintro σ' H1 ⟨v2, v3, v4, acc, cs, rfl, hacc, hZ, hPz, hlen, s1⟩
    rw [len, List.take_length] at hacc
    refine ⟨_, rfl, Z, cs, rfl, .inl ⟨SqL.of hZ, fun T nT => ?_⟩⟩
    have g : Same H1 _ := same_new nT (.tup cs)
    rw [hacc] at hPz
    exact q T cs _ (s1.free nT) upd_same (pts_keep (Keep.of g) hPz) (s1.trans g)
theorem scPaint : FnScope ["line", "what", "low", "high", "ahead", "amid", "behind"] ["line", "what", "low", "high"] (defScope sPaint) := ⟨rfl, rfl, rfl, by decide +kernel, rfl, by decide +kernel, by decide +kernel⟩
theorem ok_paint {kws : List (Str × V)} (F : FunD K "painted" "painted" (defArgs sPaint) (defBody sPaint) (defScope sPaint) [] kws f fd) (GC : FnOk P w K mg base CX0 2 fC fdC ["line", "low", "high"] spClip) (bC : Binds K fdC ["line", "low", "high"] []) (kC : PySem.W.keepIn K (.ref fC) = true) (mC : mg "clipped" = some (.ref fC))
    (GJ : FnOk P w K mg base CX0 1 fJ fdJ ["pieces"] spJoin) (bJ : Binds K fdJ ["pieces"] []) (kJ : PySem.W.keepIn K (.ref fJ) = true) (mJ : mg "joined" = some (.ref fJ)) (mF : ∃ u, mg "FIRST" = some u ∧ RelV (.int 0) u) : FnOk P w K mg base CX0 3 f fd ["line", "what", "low", "high"] spPaint := by
  refine F.ok scPaint (fun vs H Q E h => ?_) (fun cdv A outer s H vs Q E hr h => ?_)
  · obtain ⟨T, wv, d, low, h, cs, qs, rfl, _⟩ := h
    rfl
  obtain ⟨T, wv, d, low, h, cs, qs, rfl, hT, hP, can, hl, hw, l0, lh, h1, q⟩ := h
  have hr1 : Room 1 _ := hr.mono (by decide)
  obtain ⟨uF, mF, rF⟩ := mF
  refine ⟨_, pss_cons (ps_if (PW.pt (pw_and (pt_cmp (pc_notN (pv 3))) (pw_and1 (pt_cmpR op_le (pv 3) (pv 2) (nomark _))))) (pss_one (ps_ret (pv 0))) pss_nil)
    (pss_cons (ps_set (i := 4) scPaint.nd rfl (Or.inl rfl) (pe_call GC hr (by rfl) mC kC bC .nil pass0 (pa_cons (pv 0) (pa_cons (pe_glob (by rfl) mF rF) (pa_cons (pv 2) pa_nil)))))
    (pss_cons (ps_set (i := 5) scPaint.nd rfl (Or.inl rfl) (pe_ifExp (pt_cmp (pc_isN (pv 1))) (pe_lst pa_nil) (pe_lst (pa_cons (pe_tup (pa_cons (pv 2) (pa_cons (pv 3) (pa_cons (pv 1) pa_nil)))) pa_nil))))
    (pss_cons (ps_set (i := 6) scPaint.nd rfl (Or.inl rfl) (pe_ifExp (pt_cmp (pc_isN (pv 3))) (pe_lst pa_nil) (pe_call GC hr (by rfl) mC kC bC .nil pass0 (pa_cons (pv 0) (pa_cons (pv 3) (pa_cons pe_non pa_nil))))))
    (pss_one (ps_ret (pe_call GJ hr1 (by rfl) mJ kJ bJ .nil pass0 (pa_cons (pe_op op_cat (pe_op op_cat (pv 4) (pv 5)) (pv 6)) pa_nil))))))), ?_⟩
  have evl : endV low = .int low := if_neg (by omega)
  have rise : Rise qs := up_rise can.down
  have bound : ∀ q ∈ qs, 0 ≤ q.lo ∧ q.e ≤ 10 ^ 12 + 1 := fun q hq => by
    obtain ⟨b, ok⟩ := pts_mem hP q hq
    exact ⟨ok.lo0, ok.top_⟩
  have fullq : ∀ q ∈ qs, q.r ≠ nonR := fun q hq => can.full q (List.mem_reverse.mpr hq)
  have fullc : ∀ {a b : Int}, ∀ p ∈ clip a b qs, p.r ≠ nonR := fun p hp => by
    obtain ⟨p', hp', hpx⟩ := clip_mem hp
    obtain ⟨_, _, _, f4, _⟩ := clipP_some hpx
    rw [f4]
    exact fullq p' hp'
  have fin : ∀ (amid : List Pt) (T' : Addr) (cs' : List V) (H' : Hp), (∀ p ∈ amid, p.lo = low ∧ p.e = h) → (∀ p ∈ amid, p.r = d.shown) → amid.length ≤ 1 → (amid = [] → d.shown = nonR) → (∀ p ∈ amid, p.r ≠ nonR) → H' T' = some (.tup cs') → Pts H' cs' ((clip 0 low qs ++ amid ++ clip h (10 ^ 12 + 1) qs).foldl joinStep []).reverse → Same H H' → Q (.ref T') H' := by
    intro amid T' cs' H' a1 a2 a3 a4 a5 hT' hP' s'
    have R := paint_rise (r := d.shown) (z := 10 ^ 12 + 1) rise a1 a3 lh
    have full : ∀ p ∈ clip 0 low qs ++ amid ++ clip h (10 ^ 12 + 1) qs, p.r ≠ nonR := fun p hp => by
      rcases List.mem_append.mp hp with hp | hp
      · rcases List.mem_append.mp hp with hp | hp
        · exact fullc p hp
        · exact a5 p hp
      · exact fullc p hp
    obtain ⟨j1, j2, j3⟩ := join_can R full
    refine q T' cs' _ H' hT' hP' (by rw [List.reverse_reverse]; exact j1) (fun x => ?_) ?_ s'
    · rw [List.reverse_reverse, j2 x, paint_text rise bound a1 a2 a3 a4 lh]
    · rw [List.length_reverse]
      have c1 := clip_two (z := 10 ^ 12 + 1) rise lh
      rw [List.length_append, List.length_append] at j3
      omega
  refine ⟨endV h, rfl, _, rfl, ?_⟩
  by_cases c0 : h > 10 ^ 12
  · have ev : endV h = .non := if_pos c0
    have eh : h = 10 ^ 12 + 1 := by omega
    rw [ev]
    refine ff2 rfl (ff2 rfl ?_)
    refine ⟨_, rfl, _, rfl, T, 0, low, cs, qs, by rw [evl]; rfl, hT, hP, by omega, by decide, by decide, by omega, fun L1 bs1 H1 n1 hL1 hP1 s1 => ?_⟩
    have none_ : clip h (10 ^ 12 + 1) qs = [] := by
      unfold clip
      rw [List.filterMap_eq_nil_iff]
      intro p hp
      refine if_neg ?_
      omega
    refine ⟨wv, rfl, _, rfl, ?_⟩
    by_cases cw : wv = .non
    · refine tt2 (by rw [cw]; rfl) ⟨(by rw [sizeLine_eq]; simp), fun L2 n2 => ?_⟩
      have g2 : Same H1 _ := same_new n2 (.lst [])
      have pA : Pts (upd H1 L2 (.lst [])) [] [] := .nil
      have hA2 := @upd_same H1 L2 (.lst [])
      generalize upd H1 L2 (.lst []) = H2 at g2 pA hA2 ⊢
      refine ⟨.non, rfl, _, rfl, tt2 rfl ⟨(by rw [sizeLine_eq]; simp), fun L3 n3 => ?_⟩⟩
      have g3 : Same H2 _ := same_new n3 (.lst [])
      have hC3 := @upd_same H2 L3 (.lst [])
      have pC : Pts (upd H2 L3 (.lst [])) [] (clip h (10 ^ 12 + 1) qs) := by rw [none_]; exact .nil
      generalize upd H2 L3 (.lst []) = H3 at g3 hC3 pC ⊢
      obtain ⟨bs3, hbs3⟩ : ∃ bs3 : List V, bs3 = [] := ⟨_, rfl⟩
      rw [← hbs3] at hC3 pC
      have c1 := clip_len 0 low qs
      have c3 := clip_len h (10 ^ 12 + 1) qs
      have k1 := pts_len hP1
      have k3 := pts_len pC
      refine ⟨_, rfl, _, rfl, L1, L2, _, _, rfl, rfl, g3 _ _ (g2 _ _ hL1), g3 _ _ hA2, (by rw [sizeLine_eq]; simp; omega), fun L4 n4 => ?_⟩
      have g4 : Same H3 _ := same_new n4 (.lst (bs1 ++ []))
      refine ⟨_, rfl, L4, L3, _, _, rfl, rfl, upd_same, g4 _ _ hC3, (by rw [List.length_append, sizeLine_eq]; simp; omega), fun L5 n5 => ?_⟩
      have g5 : Same _ _ := same_new n5 (.lst (bs1 ++ [] ++ bs3))
      have g45 := g4.trans g5
      have a1 : ∀ p ∈ ([] : List Pt), p.lo = low ∧ p.e = h := fun p hp => (nomatch hp)
      have a2 : ∀ p ∈ ([] : List Pt), p.r = d.shown := fun p hp => (nomatch hp)
      have a4 : ([] : List Pt) = [] → d.shown = nonR := fun _ => by rw [cw] at hw; rw [hw.non]; rfl
      have a5 : ∀ p ∈ ([] : List Pt), p.r ≠ nonR := fun p hp => (nomatch hp)
      refine ⟨L5, _, clip 0 low qs ++ [] ++ clip h (10 ^ 12 + 1) qs, rfl, upd_same, ?_, paint_rise (r := d.shown) rise a1 (by simp) lh, fun p hp => ?_, ?_, fun T' cs' H' nT hT' hP' s' => ?_⟩
      · exact pts_app (pts_app (pts_keep (Keep.of ((g2.trans g3).trans g45)) hP1) (pts_keep (Keep.of (g3.trans g45)) pA)) (pts_keep (Keep.of g45) pC)
      · rcases List.mem_append.mp hp with hp | hp
        · rcases List.mem_append.mp hp with hp | hp
          · exact fullc p hp
          · exact a5 p hp
        · exact fullc p hp
      · simp only [List.length_append, List.length_nil, List.length_cons]
        omega
      · exact fin _ T' cs' H' a1 a2 (by simp) a4 a5 hT' hP' ((((s1.trans g2).trans g3).trans g45).trans s')
    · refine ff2 (decide_eq_false cw) ⟨_, rfl, _, rfl, _, rfl, (by rw [sizeLine_eq]; simp), fun t2 m2 => ⟨(by rw [sizeLine_eq]; simp), fun L2 n2 => ?_⟩⟩
      have g1 : Same H1 _ := same_new m2 (.tup [.int low, endV h, wv])
      rw [ev] at g1
      have g2 : Same H1 _ := g1.trans (same_new n2 (.lst [.ref t2]))
      have pA : Pts (upd (upd H1 t2 (.tup [.int low, .non, wv])) L2 (.lst [.ref t2])) [.ref t2] [⟨low, h, wv, d.shown⟩] := .cons ⟨⟨t2, rfl, by rw [ev]; exact same_new n2 _ _ _ upd_same⟩, ⟨d, hw.keep (Keep.of (s1.trans g2)), rfl⟩, l0, lh, h1⟩ .nil
      have hA2 := @upd_same (upd H1 t2 (.tup [.int low, .non, wv])) L2 (.lst [.ref t2])
      generalize upd (upd H1 t2 (.tup [.int low, .non, wv])) L2 (.lst [.ref t2]) = H2 at g2 pA hA2 ⊢
      refine ⟨.non, rfl, _, rfl, tt2 rfl ⟨(by rw [sizeLine_eq]; simp), fun L3 n3 => ?_⟩⟩
      have g3 : Same H2 _ := same_new n3 (.lst [])
      have hC3 := @upd_same H2 L3 (.lst [])
      have pC : Pts (upd H2 L3 (.lst [])) [] (clip h (10 ^ 12 + 1) qs) := by rw [none_]; exact .nil
      generalize upd H2 L3 (.lst []) = H3 at g3 hC3 pC ⊢
      obtain ⟨bs3, hbs3⟩ : ∃ bs3 : List V, bs3 = [] := ⟨_, rfl⟩
      rw [← hbs3] at hC3 pC
      have c1 := clip_len 0 low qs
      have c3 := clip_len h (10 ^ 12 + 1) qs
      have k1 := pts_len hP1
      have k3 := pts_len pC
      refine ⟨_, rfl, _, rfl, L1, L2, _, _, rfl, rfl, g3 _ _ (g2 _ _ hL1), g3 _ _ hA2, (by rw [sizeLine_eq]; simp; omega), fun L4 n4 => ?_⟩
      have g4 : Same H3 _ := same_new n4 (.lst (bs1 ++ [.ref t2]))
      refine ⟨_, rfl, L4, L3, _, _, rfl, rfl, upd_same, g4 _ _ hC3, (by rw [List.length_append, sizeLine_eq]; simp; omega), fun L5 n5 => ?_⟩
      have g5 : Same _ _ := same_new n5 (.lst (bs1 ++ [.ref t2] ++ bs3))
      have g45 := g4.trans g5
      have a1 : ∀ p ∈ [(⟨low, h, wv, d.shown⟩ : Pt)], p.lo = low ∧ p.e = h := fun p hp => by rw [List.mem_singleton.mp hp]; exact ⟨rfl, rfl⟩
      have a2 : ∀ p ∈ [(⟨low, h, wv, d.shown⟩ : Pt)], p.r = d.shown := fun p hp => by rw [List.mem_singleton.mp hp]
      have a4 : [(⟨low, h, wv, d.shown⟩ : Pt)] = [] → d.shown = nonR := fun z => (nomatch z)
      have a5 : ∀ p ∈ [(⟨low, h, wv, d.shown⟩ : Pt)], p.r ≠ nonR := fun p hp => by rw [List.mem_singleton.mp hp]; exact hw.full cw
      refine ⟨L5, _, clip 0 low qs ++ [⟨low, h, wv, d.shown⟩] ++ clip h (10 ^ 12 + 1) qs, rfl, upd_same, ?_, paint_rise (r := d.shown) rise a1 (by simp) lh, fun p hp => ?_, ?_, fun T' cs' H' nT hT' hP' s' => ?_⟩
      · exact pts_app (pts_app (pts_keep (Keep.of ((g2.trans g3).trans g45)) hP1) (pts_keep (Keep.of (g3.trans g45)) pA)) (pts_keep (Keep.of g45) pC)
      · rcases List.mem_append.mp hp with hp | hp
        · rcases List.mem_append.mp hp with hp | hp
          · exact fullc p hp
          · exact a5 p hp
        · exact fullc p hp
      · simp only [List.length_append, List.length_nil, List.length_cons]
        omega
      · exact fin _ T' cs' H' a1 a2 (by simp) a4 a5 hT' hP' ((((s1.trans g2).trans g3).trans g45).trans s')
  · have ev : endV h = .int h := if_neg c0
    rw [ev]
    refine tt2 rfl ⟨_, rfl, _, rfl, _, _, rfl, rfl, _, rfl, ff2 (decide_eq_false (by omega)) ?_⟩
    refine ⟨_, rfl, _, rfl, T, 0, low, cs, qs, by rw [evl]; rfl, hT, hP, by omega, by decide, by decide, by omega, fun L1 bs1 H1 n1 hL1 hP1 s1 => ?_⟩
    refine ⟨wv, rfl, _, rfl, ?_⟩
    by_cases cw : wv = .non
    · refine tt2 (by rw [cw]; rfl) ⟨(by rw [sizeLine_eq]; simp), fun L2 n2 => ?_⟩
      have g2 : Same H1 _ := same_new n2 (.lst [])
      have pA : Pts (upd H1 L2 (.lst [])) [] [] := .nil
      have hA2 := @upd_same H1 L2 (.lst [])
      generalize upd H1 L2 (.lst []) = H2 at g2 pA hA2 ⊢
      refine ⟨.int h, rfl, _, rfl, ff2 rfl ⟨_, rfl, _, rfl, T, h, 10 ^ 12 + 1, cs, qs, rfl, g2 _ _ (s1 _ _ hT), pts_keep (Keep.of (s1.trans g2)) hP, by omega, by omega, by omega, by decide, fun L3 bs3 H3 n3 hC3 pC g3 => ?_⟩⟩
      have c1 := clip_len 0 low qs
      have c3 := clip_len h (10 ^ 12 + 1) qs
      have k1 := pts_len hP1
      have k3 := pts_len pC
      refine ⟨_, rfl, _, rfl, L1, L2, _, _, rfl, rfl, g3 _ _ (g2 _ _ hL1), g3 _ _ hA2, (by rw [sizeLine_eq]; simp; omega), fun L4 n4 => ?_⟩
      have g4 : Same H3 _ := same_new n4 (.lst (bs1 ++ []))
      refine ⟨_, rfl, L4, L3, _, _, rfl, rfl, upd_same, g4 _ _ hC3, (by rw [List.length_append, sizeLine_eq]; simp; omega), fun L5 n5 => ?_⟩
      have g5 : Same _ _ := same_new n5 (.lst (bs1 ++ [] ++ bs3))
      have g45 := g4.trans g5
      have a1 : ∀ p ∈ ([] : List Pt), p.lo = low ∧ p.e = h := fun p hp => (nomatch hp)
      have a2 : ∀ p ∈ ([] : List Pt), p.r = d.shown := fun p hp => (nomatch hp)
      have a4 : ([] : List Pt) = [] → d.shown = nonR := fun _ => by rw [cw] at hw; rw [hw.non]; rfl
      have a5 : ∀ p ∈ ([] : List Pt), p.r ≠ nonR := fun p hp => (nomatch hp)
      refine ⟨L5, _, clip 0 low qs ++ [] ++ clip h (10 ^ 12 + 1) qs, rfl, upd_same, ?_, paint_rise (r := d.shown) rise a1 (by simp) lh, fun p hp => ?_, ?_, fun T' cs' H' nT hT' hP' s' => ?_⟩
      · exact pts_app (pts_app (pts_keep (Keep.of ((g2.trans g3).trans g45)) hP1) (pts_keep (Keep.of (g3.trans g45)) pA)) (pts_keep (Keep.of g45) pC)
      · rcases List.mem_append.mp hp with hp | hp
        · rcases List.mem_append.mp hp with hp | hp
          · exact fullc p hp
          · exact a5 p hp
        · exact fullc p hp
      · simp only [List.length_append, List.length_nil, List.length_cons]
        omega
      · exact fin _ T' cs' H' a1 a2 (by simp) a4 a5 hT' hP' ((((s1.trans g2).trans g3).trans g45).trans s')
    · refine ff2 (decide_eq_false cw) ⟨_, rfl, _, rfl, _, rfl, (by rw [sizeLine_eq]; simp), fun t2 m2 => ⟨(by rw [sizeLine_eq]; simp), fun L2 n2 => ?_⟩⟩
      have g1 : Same H1 _ := same_new m2 (.tup [.int low, endV h, wv])
      rw [ev] at g1
      have g2 : Same H1 _ := g1.trans (same_new n2 (.lst [.ref t2]))
      have pA : Pts (upd (upd H1 t2 (.tup [.int low, .int h, wv])) L2 (.lst [.ref t2])) [.ref t2] [⟨low, h, wv, d.shown⟩] := .cons ⟨⟨t2, rfl, by rw [ev]; exact same_new n2 _ _ _ upd_same⟩, ⟨d, hw.keep (Keep.of (s1.trans g2)), rfl⟩, l0, lh, h1⟩ .nil
      have hA2 := @upd_same (upd H1 t2 (.tup [.int low, .int h, wv])) L2 (.lst [.ref t2])
      generalize upd (upd H1 t2 (.tup [.int low, .int h, wv])) L2 (.lst [.ref t2]) = H2 at g2 pA hA2 ⊢
      refine ⟨.int h, rfl, _, rfl, ff2 rfl ⟨_, rfl, _, rfl, T, h, 10 ^ 12 + 1, cs, qs, rfl, g2 _ _ (s1 _ _ hT), pts_keep (Keep.of (s1.trans g2)) hP, by omega, by omega, by omega, by decide, fun L3 bs3 H3 n3 hC3 pC g3 => ?_⟩⟩
      have c1 := clip_len 0 low qs
      have c3 := clip_len h (10 ^ 12 + 1) qs
      have k1 := pts_len hP1
      have k3 := pts_len pC
      refine ⟨_, rfl, _, rfl, L1, L2, _, _, rfl, rfl, g3 _ _ (g2 _ _ hL1), g3 _ _ hA2, (by rw [sizeLine_eq]; simp; omega), fun L4 n4 => ?_⟩
      have g4 : Same H3 _ := same_new n4 (.lst (bs1 ++ [.ref t2]))
      refine ⟨_, rfl, L4, L3, _, _, rfl, rfl, upd_same, g4 _ _ hC3, (by rw [List.length_append, sizeLine_eq]; simp; omega), fun L5 n5 => ?_⟩
      have g5 : Same _ _ := same_new n5 (.lst (bs1 ++ [.ref t2] ++ bs3))
      have g45 := g4.trans g5
      have a1 : ∀ p ∈ [(⟨low, h, wv, d.shown⟩ : Pt)], p.lo = low ∧ p.e = h := fun p hp => by rw [List.mem_singleton.mp hp]; exact ⟨rfl, rfl⟩
      have a2 : ∀ p ∈ [(⟨low, h, wv, d.shown⟩ : Pt)], p.r = d.shown := fun p hp => by rw [List.mem_singleton.mp hp]
      have a4 : [(⟨low, h, wv, d.shown⟩ : Pt)] = [] → d.shown = nonR := fun z => (nomatch z)
      have a5 : ∀ p ∈ [(⟨low, h, wv, d.shown⟩ : Pt)], p.r ≠ nonR := fun p hp => by rw [List.mem_singleton.mp hp]; exact hw.full cw
      refine ⟨L5, _, clip 0 low qs ++ [⟨low, h, wv, d.shown⟩] ++ clip h (10 ^ 12 + 1) qs, rfl, upd_same, ?_, paint_rise (r := d.shown) rise a1 (by simp) lh, fun p hp => ?_, ?_, fun T' cs' H' nT hT' hP' s' => ?_⟩
      · exact pts_app (pts_app (pts_keep (Keep.of ((g2.trans g3).trans g45)) hP1) (pts_keep (Keep.of (g3.trans g45)) pA)) (pts_keep (Keep.of g45) pC)
      · rcases List.mem_append.mp hp with hp | hp
        · rcases List.mem_append.mp hp with hp | hp
          · exact fullc p hp
          · exact a5 p hp
        · exact fullc p hp
      · simp only [List.length_append, List.length_nil, List.length_cons]
        omega
      · exact fin _ T' cs' H' a1 a2 (by simp) a4 a5 hT' hP' ((((s1.trans g2).trans g3).trans g45).trans s')
end
end Q20
namespace Q20
open PySem L2 L2.Gd L2.SetL Ln
abbrev kwP : List (Str × V) := [("low", .int 0), ("high", .non)]
abbrev psP : List Str := ["line", "what", "low", "high"]
theorem vals_swap {vs : List V} {us : List Value} (r : Vals vs us) : Vals vs.reverse us.reverse := by
  induction r with
  | nil => exact .nil
  | cons h _ ih =>
    rw [List.reverse_cons, List.reverse_cons]
    exact ih.append (.cons h .nil)
section
variable {K : PySem.W.Frag} {f : Addr} {fd : FuncData}
theorem kw_lh (F : FunD K "painted" "painted" (defArgs sPaint) (defBody sPaint) (defScope sPaint) [] kwP f fd) : KBn K fd psP 2 ["low", "high"] (fun us ws => us ++ ws) (fun vs zs => vs ++ zs) := by
  obtain ⟨mv, h⟩ := FunD.kbinds0 (ps := psP) F 2 ["low", "high"] [] (fun us _ ws => us ++ ws) (by simp) (fun q hq => (nomatch hq)) (fun r1 _ r3 => r1.append r3) (fun D doc pm an cdv ct us mv ws h1 h2 h3 => match us, mv, ws, h1, h2, h3 with | [_, _], [], [_, _], _, _, _ => rfl)
  exact h
theorem kw_hl (F : FunD K "painted" "painted" (defArgs sPaint) (defBody sPaint) (defScope sPaint) [] kwP f fd) : KBn K fd psP 2 ["high", "low"] (fun us ws => us ++ ws.reverse) (fun vs zs => vs ++ zs.reverse) := by
  obtain ⟨mv, h⟩ := FunD.kbinds0 (ps := psP) F 2 ["high", "low"] [] (fun us _ ws => us ++ ws.reverse) (by simp) (fun q hq => (nomatch hq)) (fun r1 _ r3 => r1.append (vals_swap r3)) (fun D doc pm an cdv ct us mv ws h1 h2 h3 => match us, mv, ws, h1, h2, h3 with | [_, _], [], [_, _], _, _, _ => rfl)
  exact h
theorem kw_h (F : FunD K "painted" "painted" (defArgs sPaint) (defBody sPaint) (defScope sPaint) [] kwP f fd) : ∃ mv, KBn K fd psP 2 ["high"] (fun us ws => us ++ mv ++ ws) (fun vs zs => vs ++ [.int 0] ++ zs) := by
  obtain ⟨mv, h⟩ := FunD.kbinds0 (ps := psP) F 2 ["high"] [("low", .int 0)] (fun us mv ws => us ++ mv ++ ws) (by simp) (fun q hq => by simp at hq; simp [hq]) (fun r1 r2 r3 => (r1.append r2).append r3) (fun D doc pm an cdv ct us mv ws h1 h2 h3 => match us, mv, ws, h1, h2, h3 with | [_, _], [_], [_], _, _, _ => ⟨_, _, _, _, _, _, rfl, rfl, rfl⟩)
  exact ⟨mv, h⟩
theorem kw_l (F : FunD K "painted" "painted" (defArgs sPaint) (defBody sPaint) (defScope sPaint) [] kwP f fd) : ∃ mv, KBn K fd psP 2 ["low"] (fun us ws => us ++ ws ++ mv) (fun vs zs => vs ++ zs ++ [.non]) := by
  obtain ⟨mv, h⟩ := FunD.kbinds0 (ps := psP) F 2 ["low"] [("high", .non)] (fun us mv ws => us ++ ws ++ mv) (by simp) (fun q hq => by simp at hq; simp [hq]) (fun r1 r2 r3 => (r1.append r3).append r2) (fun D doc pm an cdv ct us mv ws h1 h2 h3 => match us, mv, ws, h1, h2, h3 with | [_, _], [_], [_], _, _, _ => ⟨_, _, _, _, _, _, rfl, rfl, rfl⟩)
  exact ⟨mv, h⟩
theorem kw_0 (F : FunD K "painted" "painted" (defArgs sPaint) (defBody sPaint) (defScope sPaint) [] kwP f fd) : ∃ ds, Vals [.int 0, .non] ds ∧ Binds K fd psP ds :=
  F.binds0 (ps := psP) 2 (by simp) rfl (fun D doc pm an cdv ct us ks h1 h2 => match us, ks, h1, h2 with | [_, _], [_, _], _, _ => ⟨_, _, _, _, _, _, rfl, rfl, _, _, _, _, _, _, rfl, rfl, rfl⟩)
end
end Q20
namespace Q20
open PySem L2 Ln
abbrev sParts : Stmt := top 28
abbrev sCovers : Stmt := top 29
abbrev sTold : Stmt := top 30
/-- a row told: which deed, which step, the pair of both, the step -/
structure Row where
  k : Nat
  j : Nat
  i : Addr
  s : Stp
def Row.key (r : Row) : Nat × Nat × Stp := (r.k, r.j, r.s)
structure RowOk (H : Hp) (v : V) (r : Row) : Prop where
  ok : r.s.Ok
  what : WhatOk H r.s.wv r.s.wd
  k_ : r.k ≤ 1000
  j_ : r.j ≤ 1000
  at_ : ∃ t : Addr, v = .ref t ∧ H t = some (.tup [.ref r.i, r.s.wv, .int r.s.lo, endV r.s.e])
  id_ : H r.i = some (.tup [.int (r.k : Int), .int (r.j : Int)])
theorem RowOk.keep {H H' : Hp} {v : V} {r : Row} (x : RowOk H v r) (k : Keep H H') : RowOk H' v r := by
  obtain ⟨t, e1, e2⟩ := x.at_
  exact ⟨x.ok, x.what.keep k, x.k_, x.j_, ⟨t, e1, k _ _ e2⟩, k _ _ x.id_⟩
def known (un : Option Int) (d : Int) : Bool := match un with
  | none => true
  | some k => decide (d ≤ k)
def untilV : Option Int → V
  | none => .non
  | some k => .int k
def mine (y z : Str) (s : Stp) : Bool := decide (s.nm = y) && decide (s.ky = z)
def selS (y z : Str) (k : Nat) (ss : List Stp) : List (Nat × Nat × Stp) := (ss.zipIdx.filter fun x => mine y z x.1).map fun x => (k, x.2, x.1)
def selD (y z : Str) (un : Option Int) (x : (Int × List Stp) × Nat) : List (Nat × Nat × Stp) := if known un x.1.1 then selS y z x.2 x.1.2 else []
def sel (y z : Str) (un : Option Int) (ds : List (Int × List Stp)) : List (Nat × Nat × Stp) := ds.zipIdx.flatMap (selD y z un)
theorem zip_take {α : Type} {l : List α} {i : Nat} {x : α} (h : l[i]? = some x) : (l.take (i + 1)).zipIdx = (l.take i).zipIdx ++ [(x, i)] := by
  have hl := (List.getElem?_eq_some_iff.mp h).1
  rw [List.take_add_one, h, List.zipIdx_append, List.length_take, Nat.min_eq_left (Nat.le_of_lt hl), Nat.zero_add]
  rfl
theorem selS_take {y z : Str} {k : Nat} {ss : List Stp} {j : Nat} {s : Stp} (h : ss[j]? = some s) : selS y z k (ss.take (j + 1)) = selS y z k (ss.take j) ++ (if mine y z s then [(k, j, s)] else []) := by
  unfold selS
  rw [zip_take h, List.filter_append, List.map_append]
  cases hm : mine y z s with
  | true => simp [hm]
  | false => simp [hm]
theorem sel_take {y z : Str} {un : Option Int} {ds : List (Int × List Stp)} {i : Nat} {d : Int × List Stp} (h : ds[i]? = some d) : sel y z un (ds.take (i + 1)) = sel y z un (ds.take i) ++ selD y z un (d, i) := by
  unfold sel
  rw [zip_take h, List.flatMap_append, List.flatMap_cons, List.flatMap_nil, List.append_nil]
theorem selS_len (y z : Str) (k : Nat) (ss : List Stp) : (selS y z k ss).length ≤ ss.length := by
  unfold selS
  rw [List.length_map]
  exact Nat.le_trans (List.length_filter_le ..) (by rw [List.length_zipIdx]; exact Nat.le_refl _)
theorem eqv_two (a b c d : Str) : PyData.eqv (.tuple [.str a, .str b]) (.tuple [.str c, .str d]) = (decide (a = c) && decide (b = d)) := by
  show ((a == c) && ((b == d) && true)) = _
  rw [Bool.and_true]
  congr 1 <;> simp [beq_eq_decide]
theorem two_shape {a b : Str} (ha : Wd a) (hb : Wd b) : SeqAt.shaped (.tuple [.str a, .str b]) = true := by
  have x : WhatOk (fun _ => some (.tup [.str a, .str b])) (.ref 0) (.tuple [.str a, .str b]) := .inr ⟨0, _, _, rfl, rfl, by simp, .cons (.str a ha.1 ha.2.1 ha.2.2) (.cons (.str b hb.1 hb.2.1 hb.2.2) .nil), rfl⟩
  obtain ⟨_, _, f3, _, f5⟩ := x.facts
  exact Bool.and_eq_true_iff.mpr ⟨f5, decide_eq_true (by omega)⟩
def spParts : Sp := fun vs H Q _ => ∃ (v : V) (s : Stp), vs = [v] ∧ StepOk H v s ∧ ∀ (R a : Addr) (H' : Hp), H' a = some (.tup [.str s.nm, .str s.ky]) → H' R = some (.tup [.ref a, s.wv, .int s.lo, endV s.e]) → Same H H' → Q (.ref R) H'
def spCovers : Sp := fun vs H Q _ => ∃ lo e d : Int, vs = [.int lo, endV e, .int d] ∧ d ≤ 10 ^ 12 ∧ Q (.bl (decide (lo ≤ d) && decide (d < e))) H
def spTold : Sp := fun vs H Q _ => ∃ (A t : Addr) (un : Option Int) (y z : Str) (us : List V) (ds : List (Int × List Stp)), vs = [.ref A, .ref t, untilV un] ∧ H A = some (.tup us) ∧ Paired (DeedOk H) us ds ∧ ds.length ≤ 60 ∧ H t = some (.tup [.str y, .str z]) ∧ Wd y ∧ Wd z ∧
  ∀ (L : Addr) (bs : List V) (rs : List Row) (H' : Hp), H L = none → H' L = some (.lst bs) → Paired (RowOk H') bs rs → rs.map Row.key = sel y z un ds → rs.length ≤ 240 → Same H H' → Q (.ref L) H'
section
variable {P : Program} {w : World} {K : PySem.W.Frag} {mg : Str → Option Value} {base : Heap}
variable {f fP : Addr} {fd fdP : FuncData}
theorem scParts : FnScope ["_law_step"] ["_law_step"] (defScope sParts) := ⟨rfl, rfl, rfl, by decide +kernel, rfl, by decide +kernel, by decide +kernel⟩
theorem ok_parts (F : Fun K "_law_parts" "_law_parts" sParts f fd) : FnOk P w K mg base CX0 1 f fd ["_law_step"] spParts := by
  refine F.ok scParts (fun vs H Q E h => ?_) (fun cdv A outer s H vs Q E hr h => ?_)
  · obtain ⟨v, s, rfl, _⟩ := h
    rfl
  obtain ⟨v, st, rfl, ⟨ok, t, rfl, ht⟩, qq⟩ := h
  refine ⟨_, pss_one (ps_ret (pe_tup (pa_cons (pe_slice sl_tup (pv 0) (po_some pe_int) (po_some pe_int)) (pa_cons (pe_ifExp (pt_cmpR op_eq (pe_ix ix_tup (pv 0) pe_int (fun _ _ => rfl)) pe_str (nomark _)) (pe_ix ix_tup (pv 0) pe_int (fun _ _ => rfl)) pe_non) (pa_cons (pe_ix ix_tup (pv 0) (pe_un un_neg pe_int) (fun _ _ => rfl)) (pa_cons (pe_ix ix_tup (pv 0) (pe_un un_neg pe_int) (fun _ _ => rfl)) pa_nil)))))), ?_⟩
  rcases ht with ⟨hv, hd, ht⟩ | ⟨u, xs, ds, hv, hd, hu, lx, td, ht⟩
  · refine ⟨_, rfl, 1, rfl, 3, rfl, t, _, rfl, SqT.of ht, (fun c => absurd (show (1 : Nat) = 0 from c.1) (by decide)), fun a na => ?_⟩
    have ga : Same H _ := same_new na (.tup (cutV [.str "cut", .str st.nm, .str st.ky, .int st.lo, endV st.e] (some 1) (some 3)))
    have ht' := ga _ _ ht
    refine ⟨_, rfl, t, _, _, _, rfl, rfl, SqT.of ht', rfl, rfl, _, rfl, ff2 (by decide +kernel) ⟨_, rfl, _, rfl, t, _, _, _, rfl, rfl, SqT.of ht', rfl, _, rfl, _, rfl, t, _, _, _, rfl, rfl, SqT.of ht', rfl, (by rw [sizeLine_eq]; simp), fun R nR => ?_⟩⟩
    have gR : Same _ _ := same_new nR (.tup [.ref a, .non, .int st.lo, endV st.e])
    exact qq R a _ (gR _ _ upd_same) (by rw [hv]; exact upd_same) (ga.trans gR)
  · refine ⟨_, rfl, 1, rfl, 3, rfl, t, _, rfl, SqT.of ht, (fun c => absurd (show (1 : Nat) = 0 from c.1) (by decide)), fun a na => ?_⟩
    have ga : Same H _ := same_new na (.tup (cutV [.str "put", .str st.nm, .str st.ky, .ref u, .int st.lo, endV st.e] (some 1) (some 3)))
    have ht' := ga _ _ ht
    refine ⟨_, rfl, t, _, _, _, rfl, rfl, SqT.of ht', rfl, rfl, _, rfl, tt2 (by decide +kernel) ⟨_, rfl, t, _, _, _, rfl, rfl, SqT.of ht', rfl, _, rfl, _, rfl, t, _, _, _, rfl, rfl, SqT.of ht', rfl, _, rfl, _, rfl, t, _, _, _, rfl, rfl, SqT.of ht', rfl, (by rw [sizeLine_eq]; simp), fun R nR => ?_⟩⟩
    have gR : Same _ _ := same_new nR (.tup [.ref a, .ref u, .int st.lo, endV st.e])
    exact qq R a _ (gR _ _ upd_same) (by rw [hv]; exact upd_same) (ga.trans gR)
theorem scCovers : FnScope ["_law_low", "_law_high", "_law_day"] ["_law_low", "_law_high", "_law_day"] (defScope sCovers) := ⟨rfl, rfl, rfl, by decide +kernel, rfl, by decide +kernel, by decide +kernel⟩
theorem ok_covers (F : Fun K "_law_covers" "_law_covers" sCovers f fd) : FnOk P w K mg base CX0 1 f fd ["_law_low", "_law_high", "_law_day"] spCovers := by
  refine F.ok scCovers (fun vs H Q E h => ?_) (fun cdv A outer s H vs Q E hr h => ?_)
  · obtain ⟨lo, e, d, rfl, _⟩ := h
    rfl
  obtain ⟨lo, e, d, rfl, hd, q⟩ := h
  refine ⟨_, pss_one (ps_ret (pe_and (pe_cmpR op_le (pv 0) (pv 2) (nomark _)) (pe_one (pe_or (pe_cmp (pc_isN (pv 1)) rfl) (pe_one (pe_cmpR op_lt (pv 2) (pv 1) (nomark _))))))), ?_⟩
  refine ⟨_, rfl, _, rfl, _, _, rfl, rfl, _, rfl, ?_⟩
  by_cases c1 : lo ≤ d
  · refine tt2 (decide_eq_true c1) ?_
    rw [decide_eq_true c1, Bool.true_and] at q
    refine ⟨endV e, rfl, _, rfl, ?_⟩
    rcases endV_cov (e := e) hd with ⟨ee, c2⟩ | ⟨ee, _⟩
    · rw [ee]
      rw [decide_eq_true c2] at q
      exact iteT q
    · rw [ee]
      exact iteF ⟨_, rfl, _, rfl, _, _, rfl, rfl, q⟩
  · refine ff2 (decide_eq_false c1) ?_
    rw [decide_eq_false c1, Bool.false_and] at q
    exact q
abbrev toldN : List Str := ["_law_deeds", "_law_place", "_law_until", "_law_rows", "_law_k", "_law_day", "_law_steps", "_law_j", "_law_step", "_law_here", "_law_worths", "_law_low", "_law_high"]
theorem scTold : FnScope toldN ["_law_deeds", "_law_place", "_law_until"] (defScope sTold) := ⟨rfl, rfl, rfl, by decide +kernel, rfl, by decide +kernel, by decide +kernel⟩
theorem ok_told (F : Fun K "_law_told" "_law_told" sTold f fd) (GP : FnOk P w K mg base CX0 1 fP fdP ["_law_step"] spParts) (bP : Binds K fdP ["_law_step"] []) (kP : PySem.W.keepIn K (.ref fP) = true) (mP : mg "_law_parts" = some (.ref fP)) (me : mg "enumerate" = none) :
    FnOk P w K mg base CX0 2 f fd ["_law_deeds", "_law_place", "_law_until"] spTold := by
  refine F.ok scTold (fun vs H Q E h => ?_) (fun cdv A outer s H vs Q E hr h => ?_)
  · obtain ⟨A, t, un, y, z, us, ds, rfl, _⟩ := h
    rfl
  have hr1 : Room 1 _ := hr.mono (by decide)
  obtain ⟨A, t, un, y, z, us, ds, rfl, hA, hD, lD, ht, wy, wz, qq⟩ := h
  have hu := hr.units
  refine ⟨_, pss_cons (ps_set (i := 3) scTold.nd rfl (Or.inl rfl) (pe_lst pa_nil))
    (pss_cons (ps_for PassesOwn.never rfl (EnT.pi_enT (by rfl) me (pa_cons (pv 0) pa_nil)) (pg_tup rfl (pgs_cons (pg_name (i := 4) scTold.nd rfl (.inl rfl)) (pgs_cons (pg_tup rfl (pgs_cons (pg_name (i := 5) scTold.nd rfl (.inl rfl)) (pgs_cons (pg_name (i := 6) scTold.nd rfl (.inl rfl)) pgs_nil))) pgs_nil)))
      (pss_one (ps_for PassesOwn.never rfl (EnT.pi_enT (by rfl) me (pa_cons (pv 6) pa_nil)) (pg_tup rfl (pgs_cons (pg_name (i := 7) scTold.nd rfl (.inl rfl)) (pgs_cons (pg_name (i := 8) scTold.nd rfl (.inl rfl)) pgs_nil)))
        (pss_cons (ps_asg (pe_call GP hr1 (by rfl) mP kP bP .nil pass0 (pa_cons (pv 8) pa_nil)) (pg_tup rfl (pgs_cons (pg_name (i := 9) scTold.nd rfl (.inl rfl)) (pgs_cons (pg_name (i := 10) scTold.nd rfl (.inl rfl)) (pgs_cons (pg_name (i := 11) scTold.nd rfl (.inl rfl)) (pgs_cons (pg_name (i := 12) scTold.nd rfl (.inl rfl)) pgs_nil))))))
        (pss_one (ps_if (PW.pt (pw_and (pt_cmpR (op_eqD hu) (pv 9) (pv 1) (nomark _)) (pw_and1 (PW.pt (pw_or (pt_cmp (pc_isN (pv 2))) (pw_or1 (pt_cmpR op_le (pv 5) (pv 2) (nomark _))))))))
          (pss_one (ps_expr (pe_bm PySem.F.plainAttrs_list PySem.F.slot_list_append PySem.F.type_list_append mt_append (pv 3) (pa_cons (pe_tup (pa_cons (pe_tup (pa_cons (pv 4) (pa_cons (pv 7) pa_nil))) (pa_cons (pv 10) (pa_cons (pv 11) (pa_cons (pv 12) pa_nil))))) pa_nil)))) pss_nil))))))
    (pss_one (ps_ret (pv 3)))), ?_⟩
  refine ⟨(by show 0 ≤ sizeLine; decide), fun Z nZ => ?_⟩
  have gZ : Same H _ := same_new nZ (.lst [])
  have lu : us.length = ds.length := Paired.length hD
  refine ⟨_, rfl, A, us, rfl, SqT.of (gZ _ _ hA), ?_⟩
  refine for_it (EnT.walk_enT (K := K) (a := A) (xs := us)) (fun i σ' H1 => ∃ (v4 v5 v6 v7 v8 v9 v10 v11 v12 : Option V) (bs : List V) (rs : List Row), σ' = [some (.ref A), some (.ref t), some (untilV un), some (.ref Z), v4, v5, v6, v7, v8, v9, v10, v11, v12] ∧ H1 Z = some (.lst bs) ∧ Paired (RowOk H1) bs rs ∧ rs.map Row.key = sel y z un (ds.take i) ∧ rs.length ≤ 4 * i ∧ Same H H1)
    ⟨none, none, none, none, none, none, none, none, none, [], [], rfl, upd_same, .nil, rfl, Nat.le_refl _, gZ⟩ (fun i σ' H1 _ ⟨_, _, _, _, _, _, _, _, _, _, _, _, _, _, _, _, s1⟩ => SqT.of (s1 _ _ hA)) ?_ ?_
  · rintro i x σ' H1 H2 hi ⟨v4, v5, v6, v7, v8, v9, v10, v11, v12, bs, rs, rfl, hZ, hR, hsel, lr, s1⟩ ⟨T, x1, x2, rfl, nT, rfl, h1, h2⟩
    cases h1
    have gT : Same H1 _ := same_new nT (.tup [.int (i : Nat), x2])
    obtain ⟨d, hd, D1⟩ := paired_at hD h2
    have D2 := (D1.keep (Keep.of s1)).keep (Keep.of gT)
    obtain ⟨dt, S, ss, rfl, hdt, hS, pS, d0, d1, l4⟩ := D2
    have s2 := s1.trans gT
    refine ⟨T, _, rfl, SqT.of upd_same, rfl, _, _, rfl, _, _, rfl, ⟨dt, _, rfl, SqT.of hdt, rfl, _, _, rfl, _, _, rfl, rfl, rfl, ?_⟩⟩
    have lss : ss.length = d.2.length := Paired.length pS
    have ic : i < 60 := by omega
    refine ⟨_, rfl, S, ss, rfl, SqT.of hS, ?_⟩
    refine for_it (EnT.walk_enT (K := K) (a := S) (xs := ss)) (fun j σ' H3 => ∃ (v7 v8 v9 v10 v11 v12 : Option V) (bs : List V) (rs : List Row), σ' = [some (.ref A), some (.ref t), some (untilV un), some (.ref Z), some (.int (i : Nat)), some (.int d.1), some (.ref S), v7, v8, v9, v10, v11, v12] ∧ H3 Z = some (.lst bs) ∧ Paired (RowOk H3) bs rs ∧ rs.map Row.key = sel y z un (ds.take i) ++ (if known un d.1 then selS y z i (d.2.take j) else []) ∧ rs.length ≤ 4 * i + j ∧ Same H H3 ∧ Keep (upd H1 T (.tup [.int (i : Nat), .ref dt])) H3)
      ⟨v7, v8, v9, v10, v11, v12, bs, rs, rfl, gT _ _ hZ, paired_mono (fun _ _ c => c.keep (Keep.of gT)) hR, ?_, by omega, s2, Keep.refl _⟩ (fun j σ' H3 _ ⟨_, _, _, _, _, _, _, _, _, _, _, _, _, _, k3⟩ => SqT.of (k3 _ _ hS)) ?_ ?_
    · rw [hsel]
      cases known un d.1 <;> simp [selS]
    · rintro j x σ' H3 H4 hj ⟨w7, w8, w9, w10, w11, w12, bs, rs, rfl, hZ, hR, hsel, lr, s3, k3⟩ ⟨T2, x3, x4, rfl, nT2, rfl, h3, h4⟩
      cases h3
      have gT2 : Same H3 _ := same_new nT2 (.tup [.int (j : Nat), x4])
      obtain ⟨st, hst, S1⟩ := paired_at pS h4
      have S2 := (S1.keep k3).keep (Keep.of gT2)
      refine ⟨T2, _, rfl, SqT.of upd_same, rfl, _, _, rfl, _, _, rfl, rfl, _, rfl, x4, st, rfl, S2, fun R a H5 ha hR5 s5 => ⟨R, _, rfl, SqT.of hR5, rfl, _, _, rfl, _, _, rfl, _, _, rfl, _, _, rfl, rfl, ?_⟩⟩
      have s25 := gT2.trans s5
      have hZ5 := s25 _ _ hZ
      have ht5 := s25 _ _ (s3 _ _ ht)
      have W5 := S2.what.keep (Keep.of s5)
      have hR' : Paired (RowOk H5) bs rs := paired_mono (fun _ _ c => c.keep (Keep.of s25)) hR
      refine ⟨_, rfl, _, rfl, .tuple [.str st.nm, .str st.ky], .tuple [.str y, .str z], ?_, ?_, ?_, ?_, _, rfl, ?_⟩
      · exact .tup (SqT.of ha) (.cons (.str _) (.cons (.str _) .nil))
      · exact .tup (SqT.of ht5) (.cons (.str _) (.cons (.str _) .nil))
      · exact two_shape S2.1.nm S2.1.ky
      · exact two_shape wy wz
      rw [eqv_two]
      have lj : j < d.2.length := by omega
      have more : (if known un d.1 then selS y z i (d.2.take (j + 1)) else []) = (if known un d.1 then selS y z i (d.2.take j) else []) ++ (if (mine y z st && known un d.1) = true then [(i, j, st)] else []) := by
        cases known un d.1 with
        | false => simp
        | true => simp [selS_take hst]
      have skip : ∀ {a b c e g k : Option V}, (mine y z st && known un d.1) = false → ∃ (v7 v8 v9 v10 v11 v12 : Option V) (bs : List V) (rs : List Row), [some (.ref A), some (.ref t), some (untilV un), some (.ref Z), some (.int (i : Nat)), some (.int d.1), some (.ref S), a, b, c, e, g, k] = [some (.ref A), some (.ref t), some (untilV un), some (.ref Z), some (.int (i : Nat)), some (.int d.1), some (.ref S), v7, v8, v9, v10, v11, v12] ∧ H5 Z = some (.lst bs) ∧ Paired (RowOk H5) bs rs ∧ rs.map Row.key = sel y z un (ds.take i) ++ (if known un d.1 then selS y z i (d.2.take (j + 1)) else []) ∧ rs.length ≤ 4 * i + (j + 1) ∧ Same H H5 ∧ Keep (upd H1 T (.tup [.int (i : Nat), .ref dt])) H5 := fun hno =>
        ⟨_, _, _, _, _, _, bs, rs, rfl, hZ5, hR', by rw [more, hno, hsel]; simp, by omega, s3.trans s25, k3.trans (Keep.of s25)⟩
      have fin : ∀ {a b c e g k : Option V} (i2 r : Addr) (H6 : Hp), H6 i2 = some (.tup [.int (i : Nat), .int (j : Nat)]) → H6 r = some (.tup [.ref i2, st.wv, .int st.lo, endV st.e]) → Same H5 H6 → (mine y z st && known un d.1) = true → ∃ (l : Addr) (xs : List V) (v : V), V.ref Z = .ref l ∧ [V.ref r] = [v] ∧ H6 l = some (.lst xs) ∧ xs.length < sizeLine ∧
          ∃ (v7 v8 v9 v10 v11 v12 : Option V) (bs : List V) (rs : List Row), [some (.ref A), some (.ref t), some (untilV un), some (.ref Z), some (.int (i : Nat)), some (.int d.1), some (.ref S), a, b, c, e, g, k] = [some (.ref A), some (.ref t), some (untilV un), some (.ref Z), some (.int (i : Nat)), some (.int d.1), some (.ref S), v7, v8, v9, v10, v11, v12] ∧ (upd H6 l (.lst (xs ++ [v]))) Z = some (.lst bs) ∧ Paired (RowOk (upd H6 l (.lst (xs ++ [v])))) bs rs ∧ rs.map Row.key = sel y z un (ds.take i) ++ (if known un d.1 then selS y z i (d.2.take (j + 1)) else []) ∧ rs.length ≤ 4 * i + (j + 1) ∧ Same H (upd H6 l (.lst (xs ++ [v]))) ∧ Keep (upd H1 T (.tup [.int (i : Nat), .ref dt])) (upd H6 l (.lst (xs ++ [v]))) := by
        intro a b c e g k i2 r H6 hi2 hr6 s6 yes
        have hZ6 := s6 _ _ hZ5
        have kZ : Keep H6 (upd H6 Z (.lst (bs ++ [.ref r]))) := fun b vs e => by
          rw [upd_ne (ne_of e hZ6 (by intro z; cases z))]
          exact e
        have lb : bs.length = rs.length := Paired.length hR
        refine ⟨Z, bs, _, rfl, rfl, hZ6, small1000 (by omega), _, _, _, _, _, _, bs ++ [.ref r], rs ++ [⟨i, j, i2, st⟩], rfl, upd_same, paired_snoc ⟨S2.1, (W5.keep (Keep.of s6)).keep kZ, by show i ≤ 1000; omega, by show j ≤ 1000; omega, ⟨r, rfl, kZ _ _ hr6⟩, kZ _ _ hi2⟩ (paired_mono (fun _ _ c => (c.keep (Keep.of s6)).keep kZ) hR'), ?_, ?_, fun b o e => ?_, (k3.trans (Keep.of (s25.trans s6))).trans kZ⟩
        · rw [more, yes, if_pos rfl, List.map_append, hsel, List.append_assoc]
          rfl
        · rw [List.length_append]
          show rs.length + 1 ≤ _
          omega
        · rw [upd_ne (ne_of_none e nZ)]
          exact s6 _ _ (s25 _ _ (s3 _ _ e))
      show if mine y z st = true then _ else _
      by_cases hm : mine y z st = true
      · refine tt2 hm ⟨untilV un, rfl, _, rfl, ?_⟩
        cases un with
        | none =>
          refine tt2 rfl (tt2 rfl ?_)
          refine ⟨_, rfl, .inl ⟨rfl, _, SqL.of hZ5⟩, _, rfl, _, rfl, (by rw [sizeLine_eq]; simp), fun i2 ni => ⟨_, rfl, _, rfl, _, rfl, (by rw [sizeLine_eq]; simp), fun r nr => ?_⟩⟩
          have gi : Same H5 _ := same_new ni (.tup [.int (i : Nat), .int (j : Nat)])
          have gr : Same _ _ := same_new nr (.tup [.ref i2, st.wv, .int st.lo, endV st.e])
          exact fin i2 r _ (gr _ _ upd_same) upd_same (gi.trans gr) (by rw [hm]; rfl)
        | some kd =>
          refine ff2 rfl ⟨_, rfl, _, rfl, _, _, rfl, rfl, _, rfl, ite2 (fun ck => ?_) (fun ck => ?_)⟩
          · refine ⟨_, rfl, .inl ⟨rfl, _, SqL.of hZ5⟩, _, rfl, _, rfl, (by rw [sizeLine_eq]; simp), fun i2 ni => ⟨_, rfl, _, rfl, _, rfl, (by rw [sizeLine_eq]; simp), fun r nr => ?_⟩⟩
            have gi : Same H5 _ := same_new ni (.tup [.int (i : Nat), .int (j : Nat)])
            have gr : Same _ _ := same_new nr (.tup [.ref i2, st.wv, .int st.lo, endV st.e])
            exact fin i2 r _ (gr _ _ upd_same) upd_same (gi.trans gr) (by rw [hm]; exact ck)
          · exact skip (by rw [hm]; simpa [known] using ck)
      · refine ff2 (by simpa using hm) (ff2 rfl ?_)
        exact skip (by rw [Bool.not_eq_true] at hm; rw [hm]; rfl)
    · rintro σ' H3 ⟨w7, w8, w9, w10, w11, w12, bs, rs, rfl, hZ, hR, hsel, lr, s3, _⟩
      refine ⟨_, _, _, _, _, _, _, _, _, bs, rs, rfl, hZ, hR, ?_, by omega, s3⟩
      rw [hsel, lss, List.take_length, sel_take hd]
      rfl
  · rintro σ' H1 ⟨v4, v5, v6, v7, v8, v9, v10, v11, v12, bs, rs, rfl, hZ, hR, hsel, lr, s1⟩
    refine ⟨_, rfl, qq Z bs rs H1 nZ hZ hR ?_ (by omega) s1⟩
    rw [hsel, lu, List.take_length]
end
end Q20
namespace Q20
open PySem L2 L2.Gd L2.SetL Ln
abbrev sLast : Stmt := top 31
/-- a row as a paint: of the numbers (0) or of the worths -/
def Row.pt (n : Nat) (r : Row) : Pt := match n with
  | 0 => ⟨r.s.lo, r.s.e, .ref r.i, (PyData.tuple [.int (r.k : Int), .int (r.j : Int)]).shown⟩
  | _ => ⟨r.s.lo, r.s.e, r.s.wv, r.s.wd.shown⟩
theorem pt_lo (n : Nat) (r : Row) : (r.pt n).lo = r.s.lo := by cases n <;> rfl
theorem pt_e (n : Nat) (r : Row) : (r.pt n).e = r.s.e := by cases n <;> rfl
def covR (d : Int) (r : Row) : Bool := decide (r.s.lo ≤ d) && decide (d < r.s.e)
def lastRow (rs : List Row) (d : Int) : Option Row := (rs.filter (covR d)).getLast?
theorem cov_pt (n : Nat) (r : Row) (d : Int) : cov (r.pt n) d = covR d r := by cases n <;> rfl
theorem last_pt (n : Nat) (rs : List Row) (d : Int) : lastAt (rs.map (Row.pt n)) d = (lastRow rs d).map (Row.pt n) := by
  unfold lastAt lastRow
  rw [← List.map_reverse, List.find?_map, show ((fun p => cov p d) ∘ Row.pt n) = covR d from funext fun r => cov_pt n r d, ← List.head?_filter, List.filter_reverse, List.head?_reverse]
theorem paired_mem {α β : Type} {R : α → β → Prop} : ∀ {xs : List α} {ys : List β}, Paired R xs ys → ∀ y ∈ ys, ∃ x, R x y
  | _, _, .cons a r, y, h => by
    rcases List.mem_cons.mp h with z | z
    · exact ⟨_, z ▸ a⟩
    · exact paired_mem r y z
theorem paired_last {α β : Type} {R : α → β → Prop} : ∀ {xs : List α} {ys : List β} {y : β}, Paired R xs (ys ++ [y]) → ∃ xs0 x, xs = xs0 ++ [x] ∧ Paired R xs0 ys ∧ R x y
  | _, [], _, .cons h .nil => ⟨[], _, rfl, .nil, h⟩
  | _, _ :: ys, y, .cons h r => by
    obtain ⟨xs0, x, rfl, h1, h2⟩ := paired_last (ys := ys) r
    exact ⟨_ :: xs0, x, rfl, .cons h h1, h2⟩
theorem RowOk.pt_what {H : Hp} {v : V} {r : Row} (x : RowOk H v r) (n : Nat) : ∃ d, WhatOk H (r.pt n).v d ∧ (r.pt n).r = d.shown := by
  cases n with
  | zero => exact ⟨_, .inr ⟨r.i, _, _, rfl, x.id_, by simp, .cons (.int _ (by have := x.k_; omega)) (.cons (.int _ (by have := x.j_; omega)) .nil), rfl⟩, rfl⟩
  | succ m => exact ⟨_, x.what, rfl⟩
section
variable {H : Hp} {bs : List V} {rs : List Row}
theorem rows_plain (h : Paired (RowOk H) bs rs) (n : Nat) : Plain (rs.map (Row.pt n)) := fun p hp hv => by
  obtain ⟨r, hr, rfl⟩ := List.mem_map.mp hp
  obtain ⟨b, ok⟩ := paired_mem h r hr
  obtain ⟨d, hd, e⟩ := ok.pt_what n
  rw [hv] at hd
  rw [e, hd.non]
  rfl
theorem rows_solid (h : Paired (RowOk H) bs rs) (n : Nat) : Solid (rs.map (Row.pt n)) := fun p hp hv => by
  obtain ⟨r, hr, rfl⟩ := List.mem_map.mp hp
  obtain ⟨b, ok⟩ := paired_mem h r hr
  obtain ⟨d, hd, e⟩ := ok.pt_what n
  rw [e]
  exact hd.full hv
theorem rows_lt (h : Paired (RowOk H) bs rs) (n : Nat) : ∀ p ∈ rs.map (Row.pt n), p.lo < p.e ∧ p.e ≤ 10 ^ 12 + 1 ∧ 0 ≤ p.lo := fun p hp => by
  obtain ⟨r, hr, rfl⟩ := List.mem_map.mp hp
  obtain ⟨b, ok⟩ := paired_mem h r hr
  rw [pt_lo, pt_e]
  exact ⟨ok.ok.lt, ok.ok.le, ok.ok.lo0⟩
theorem rows_at (h : Paired (RowOk H) bs rs) (n : Nat) (d : Int) : ∃ x, WhatOk H (atV (rs.map (Row.pt n)) d) x ∧ atR (rs.map (Row.pt n)) d = x.shown := by
  unfold atV atR
  rw [last_pt]
  cases e : lastRow rs d with
  | none => exact ⟨.none, .inl .non, rfl⟩
  | some r =>
    obtain ⟨b, ok⟩ := paired_mem h r (List.mem_filter.mp (List.mem_of_getLast? e)).1
    exact ok.pt_what n
theorem rows_dp {K : PySem.W.Frag} : ∀ {bs : List V} {rs : List Row}, Paired (RowOk H) bs rs → ∃ ds, DpAll K H bs ds ∧ PyData.canLayAll0 ds = true ∧ PyData.depthAll ds ≤ 62 ∧ ds.length = bs.length
  | _, _, .nil => ⟨[], .nil, rfl, Nat.zero_le _, rfl⟩
  | _, _, .cons (b := r) h rr => by
    obtain ⟨ds, h1, h2, h3, h4⟩ := rows_dp (K := K) rr
    obtain ⟨a, rfl, ha⟩ := h.at_
    obtain ⟨d0, w0, _⟩ := h.pt_what 0
    have w1 := h.what
    obtain ⟨_, _, f3, _, f5⟩ := w0.facts
    obtain ⟨_, _, g3, _, g5⟩ := w1.facts
    have ev : ∃ ed, Dp K H (endV r.s.e) ed ∧ ed.canLay0 = true ∧ ed.depth = 0 := by
      unfold endV
      by_cases c : r.s.e > 10 ^ 12
      · rw [if_pos c]
        exact ⟨.none, .non, rfl, rfl⟩
      · rw [if_neg c]
        exact ⟨.int r.s.e, .int r.s.e, rfl, rfl⟩
    obtain ⟨ed, e1, e2, e3⟩ := ev
    refine ⟨.tuple [d0, r.s.wd, .int r.s.lo, ed] :: ds, .cons (.tup (SqT.of ha) (.cons w0.dp (.cons w1.dp (.cons (.int _) (.cons e1 .nil))))) h1, ?_, ?_, by rw [List.length_cons, List.length_cons, h4]⟩
    · simp [PyData.canLayAll0, PyData.canLay0, e2, f5, g5, h2]
    · simp only [PyData.depthAll, PyData.depth, e3]
      omega
end
def spLast : Sp := fun vs H Q _ => ∃ (L : Addr) (d : Int) (bs : List V) (rs : List Row), vs = [.ref L, .int d] ∧ H L = some (.lst bs) ∧ Paired (RowOk H) bs rs ∧ rs.length ≤ 240 ∧ d ≤ 10 ^ 12 ∧
  ∀ (v : V) (H' : Hp), Same H H' → (∀ r, lastRow rs d = some r → RowOk H' v r) → (lastRow rs d = none → v = .non) → Q v H'
section
variable {P : Program} {w : World} {K : PySem.W.Frag} {mg : Str → Option Value} {base : Heap}
variable {f fC fL : Addr} {fd fdC fdL : FuncData}
abbrev lastN : List Str := ["_law_rows", "_law_day", "_law_some", "_law_row"]
theorem scLast : FnScope lastN ["_law_rows", "_law_day"] (defScope sLast) := ⟨rfl, rfl, rfl, by decide +kernel, rfl, by decide +kernel, by decide +kernel⟩
theorem ok_last (F : Fun K "_law_last" "_law_last" sLast f fd) (GC : FnOk P w K mg base CX0 1 fC fdC ["_law_low", "_law_high", "_law_day"] spCovers) (bC : Binds K fdC ["_law_low", "_law_high", "_law_day"] []) (kC : PySem.W.keepIn K (.ref fC) = true) (mC : mg "_law_covers" = some (.ref fC)) :
    FnOk P w K mg base CX0 2 f fd ["_law_rows", "_law_day"] spLast := by
  refine F.ok scLast (fun vs H Q E h => ?_) (fun cdv A outer s H vs Q E hr h => ?_)
  · obtain ⟨L, d, bs, rs, rfl, _⟩ := h
    rfl
  have hr1 : Room 1 _ := hr.mono (by decide)
  obtain ⟨L, d, bs, rs, rfl, hL, hR, lr, hd, qq⟩ := h
  have hu := hr.units
  refine ⟨_, pss_cons (ps_setLc (i := 2) (own := [("_law_row", 3)]) (g := gName 3) (by rfl) scLast.nd rfl rfl (sw_true rfl rfl rfl (by decide +kernel)) (pi_list (pv 0)) (blkOk_by (own := [("_law_row", 3)]) (N := lastN) (sc := defScope sLast) (by decide +kernel))
      (fun _ _ _ _ _ => pg_name (i := 3) scLast.nd rfl (Or.inl rfl)) (fun _ _ _ _ _ => pts_one (pt_val (pe_call GC hr1 (by rfl) mC kC bC .nil pass0 (pa_cons (pe_ix (r := rIxT K) ix_tup (pv 3) pe_int (fun _ _ => rfl)) (pa_cons (pe_ix (r := rIxT K) ix_tup (pv 3) pe_int (fun _ _ => rfl)) (pa_cons (pv 1) pa_nil)))))) (fun _ _ _ _ _ => pv 3))
    (pss_one (ps_ret (pe_ifExp (pt_cmpR (op_neD hu) (pv 2) (pe_lst pa_nil) (nomark _)) (pe_ix ix_list (pv 2) (pe_un un_neg pe_int) (fun _ _ => rfl)) pe_non))), ?_⟩
  have lb : bs.length = rs.length := Paired.length hR
  refine ⟨_, rfl, L, rfl, ⟨_, SqL.of hL⟩, fun D nD => ?_⟩
  refine lc_list (K := K) (a := L) (xs := bs) (fun i H1 => ∃ xs : List V, H1 D = some (.lst xs) ∧ Paired (RowOk H1) xs ((rs.take i).filter (covR d)) ∧ xs.length ≤ i ∧ Same H H1) ⟨[], upd_same, .nil, Nat.le_refl _, same_new nD _⟩ (fun i H1 _ ⟨_, _, _, _, s1⟩ => SqL.of (s1 _ _ hL)) ?_ ?_
  · rintro i b H1 hi ⟨xs, x1, x2, x3, s1⟩
    obtain ⟨r, hr2, ok0⟩ := paired_at hR hi
    have ok := ok0.keep (Keep.of s1)
    obtain ⟨t, rfl, ht⟩ := ok.at_
    have il : i < 240 := by
      have := (List.getElem?_eq_some_iff.mp hi).1
      omega
    have tk : (rs.take (i + 1)).filter (covR d) = (rs.take i).filter (covR d) ++ (if covR d r = true then [r] else []) := by
      rw [List.take_add_one, hr2, List.filter_append]
      cases hc : covR d r <;> simp [hc]
    refine ⟨rfl, _, rfl, t, _, _, _, rfl, rfl, SqT.of ht, rfl, _, rfl, t, _, _, _, rfl, rfl, SqT.of ht, rfl, _, rfl, r.s.lo, r.s.e, d, rfl, hd, _, rfl, ?_⟩
    show if covR d r = true then _ else _
    by_cases hc : covR d r = true
    · refine tt2 hc ⟨_, rfl, _, x1, small1000 (by omega), ?_⟩
      have kD : Keep H1 (upd H1 D (.lst (xs ++ [.ref t]))) := fun a us e => by
        rw [upd_ne (ne_of e x1 (by intro z; cases z))]
        exact e
      refine ⟨xs ++ [.ref t], upd_same, ?_, by rw [List.length_append]; show xs.length + 1 ≤ _; omega, fun b o e => ?_⟩
      · rw [tk, if_pos hc]
        exact paired_snoc (ok.keep kD) (paired_mono (fun _ _ z => z.keep kD) x2)
      · rw [upd_ne (ne_of_none e nD)]
        exact s1 _ _ e
    · refine ff2 (by simpa using hc) ⟨xs, x1, ?_, by omega, s1⟩
      rw [tk, if_neg hc, List.append_nil]
      exact x2
  rintro H1 ⟨xs, x1, x2, x3, s1⟩
  rw [lb, List.take_length] at x2
  refine ⟨_, rfl, (by show 0 ≤ sizeLine; decide), fun E0 nE => ?_⟩
  have gE : Same H1 _ := same_new nE (.lst [])
  have y1 := gE _ _ x1
  have y2 : Paired (RowOk (upd H1 E0 (.lst []))) xs (rs.filter (covR d)) := paired_mono (fun _ _ z => z.keep (Keep.of gE)) x2
  obtain ⟨dds, dd1, dd2, dd3, dd4⟩ := rows_dp (K := K) y2
  refine ⟨.list dds, .list [], .lst (SqL.of y1) dd1, .lst (SqL.of upd_same) .nil, Bool.and_eq_true_iff.mpr ⟨by simpa [PyData.canLay0] using dd2, decide_eq_true (by simp only [PyData.depth]; omega)⟩, rfl, _, rfl, ?_⟩
  have s2 := s1.trans gE
  rcases List.eq_nil_or_concat (rs.filter (covR d)) with hn | ⟨l, r, hc⟩
  · rw [hn] at y2
    have x0 : xs = [] := List.length_eq_zero_iff.mp (Paired.length y2)
    subst x0
    have d0 : dds = [] := List.length_eq_zero_iff.mp dd4
    subst d0
    exact ff2 rfl (qq _ _ s2 (fun r e => by unfold lastRow at e; rw [hn] at e; cases e) fun _ => rfl)
  · rw [hc, List.concat_eq_append] at y2
    obtain ⟨xs0, x, rfl, p0, okx⟩ := paired_last y2
    have dne : (!PyData.eqv (.list dds) (.list [])) = true := by
      match dds, dd4 with
      | [], h => rw [List.length_append] at h; exact absurd h (by simp)
      | _ :: _, _ => rfl
    refine tt2 dne ⟨_, rfl, _, rfl, D, _, _, _, rfl, rfl, SqL.of y1, atI_last xs0 x, qq _ _ s2 (fun r' e => ?_) fun e => ?_⟩
    · unfold lastRow at e
      rw [hc, List.concat_eq_append, List.getLast?_append] at e
      have : r = r' := by simpa using e
      exact this ▸ okx
    · unfold lastRow at e
      rw [hc, List.concat_eq_append, List.getLast?_append] at e
      simp at e
end
end Q20
namespace Q20
open PySem L2 L2.Gd L2.SetL Ln
abbrev sSpanOf : Stmt := top 11
abbrev sKDeeds : Stmt := top 14
def stPt (s : Stp) : Pt := ⟨s.lo, s.e, s.wv, s.wd.shown⟩
theorem map_pt (rs : List Row) : rs.map (Row.pt 1) = (rs.map Row.key).map fun x => stPt x.2.2 := by
  rw [List.map_map]
  rfl
theorem selS_steps (y z : Str) (k : Nat) : ∀ (ss : List Stp) (n : Nat), (((ss.zipIdx n).filter fun x => mine y z x.1).map fun x => (k, x.2, x.1)).map (fun x => x.2.2) = ss.filter (mine y z)
  | [], _ => rfl
  | s :: r, n => by
    have ih := selS_steps y z k r (n + 1)
    rw [List.zipIdx_cons]
    cases hm : mine y z s with
    | true => simp only [List.filter_cons, hm, if_true, List.map_cons]; rw [ih]
    | false => simp only [List.filter_cons, hm, Bool.false_eq_true, if_false]; exact ih
theorem sel_steps (y z : Str) (un : Option Int) : ∀ (ds : List (Int × List Stp)) (n : Nat), ((ds.zipIdx n).flatMap (selD y z un)).map (fun x => x.2.2) = (ds.filter fun d => known un d.1).flatMap fun d => d.2.filter (mine y z)
  | [], _ => rfl
  | d :: r, n => by
    have ih := sel_steps y z un r (n + 1)
    rw [List.zipIdx_cons, List.flatMap_cons, List.map_append, ih]
    unfold selD
    cases hk : known un d.1 with
    | true =>
      rw [List.filter_cons_of_pos (by exact hk), List.flatMap_cons]
      congr 1
      exact selS_steps y z n d.2 0
    | false =>
      rw [List.filter_cons_of_neg (by rw [hk]; decide)]
      rfl
theorem sel_same (y z : Str) (un : Option Int) (ds : List (Int × List Stp)) : (sel y z un ds).map (fun x => x.2.2) = (sel y z none (ds.filter fun d => known un d.1)).map fun x => x.2.2 := by
  unfold sel
  rw [sel_steps, sel_steps]
  congr 1
  rw [List.filter_filter]
  exact List.filter_congr fun d _ => by simp [known]
theorem StepOk.names {H : Hp} {v : V} {s : Stp} (x : StepOk H v s) : ∃ (t : Addr) (hd : Str) (rest : List V), v = .ref t ∧ H t = some (.tup (.str hd :: .str s.nm :: .str s.ky :: rest)) := by
  obtain ⟨ok, t, rfl, h⟩ := x
  rcases h with ⟨a, a2, b⟩ | ⟨u, vs, ds, a, a2, b, c, d, e⟩
  · exact ⟨t, _, _, rfl, b⟩
  · exact ⟨t, _, _, rfl, e⟩
def spSpanOf : Sp := fun vs H Q _ => ∃ (v : V) (s : Stp), vs = [v] ∧ StepOk H v s ∧ ∀ (t : Addr) (H' : Hp), H' t = some (.tup [.int s.lo, endV s.e]) → Same H H' → Q (.ref t) H'
def spKDeeds : Sp := fun vs H Q _ => ∃ (A : Addr) (un : Option Int) (us : List V) (ds : List (Int × List Stp)), vs = [.ref A, untilV un] ∧ H A = some (.tup us) ∧ Paired (DeedOk H) us ds ∧ ds.length ≤ 60 ∧
  ∀ (L : Addr) (xs : List V) (H' : Hp), H L = none → H' L = some (.lst xs) → Paired (DeedOk H') xs (ds.filter fun d => known un d.1) → Same H H' → Q (.ref L) H'
section
variable {P : Program} {w : World} {K : PySem.W.Frag} {mg : Str → Option Value} {base : Heap}
variable {f fD fS fW fP fK : Addr} {fd fdD fdS fdW fdP fdK : FuncData}
theorem scSpanOf : FnScope ["step"] ["step"] (defScope sSpanOf) := ⟨rfl, rfl, rfl, by decide +kernel, rfl, by decide +kernel, by decide +kernel⟩
theorem ok_spanOf (F : Fun K "span_of" "span_of" sSpanOf f fd) : FnOk P w K mg base CX0 1 f fd ["step"] spSpanOf := by
  refine F.ok scSpanOf (fun vs H Q E h => ?_) (fun cdv A outer s H vs Q E hr h => ?_)
  · obtain ⟨v, s, rfl, _⟩ := h
    rfl
  obtain ⟨v, st, rfl, ⟨ok, t, rfl, ht⟩, qq⟩ := h
  refine ⟨_, pss_one (ps_ret (pe_tup (pa_cons (pe_ix ix_tup (pv 0) (pe_un un_neg pe_int) (fun _ _ => rfl)) (pa_cons (pe_ix ix_tup (pv 0) (pe_un un_neg pe_int) (fun _ _ => rfl)) pa_nil)))), ?_⟩
  rcases ht with ⟨hv, hd, ht⟩ | ⟨u, xs, ds, hv, hd, hu, lx, td, ht⟩
  · exact ⟨_, rfl, _, rfl, t, _, _, _, rfl, rfl, SqT.of ht, rfl, _, rfl, _, rfl, t, _, _, _, rfl, rfl, SqT.of ht, rfl, (by rw [sizeLine_eq]; simp), fun R nR => qq R _ upd_same (same_new nR _)⟩
  · exact ⟨_, rfl, _, rfl, t, _, _, _, rfl, rfl, SqT.of ht, rfl, _, rfl, _, rfl, t, _, _, _, rfl, rfl, SqT.of ht, rfl, (by rw [sizeLine_eq]; simp), fun R nR => qq R _ upd_same (same_new nR _)⟩
theorem scKDeeds : FnScope ["deeds", "known", "deed"] ["deeds", "known"] (defScope sKDeeds) := ⟨rfl, rfl, rfl, by decide +kernel, rfl, by decide +kernel, by decide +kernel⟩
theorem ok_kdeeds (F : Fun K "known_deeds" "known_deeds" sKDeeds f fd) : FnOk P w K mg base CX0 1 f fd ["deeds", "known"] spKDeeds := by
  refine F.ok scKDeeds (fun vs H Q E h => ?_) (fun cdv A outer s H vs Q E hr h => ?_)
  · obtain ⟨A, un, us, ds, rfl, _⟩ := h
    rfl
  obtain ⟨A, un, us, ds, rfl, hA, hD, lD, qq⟩ := h
  refine ⟨_, pss_one (ps_ret (pe_lc (own := [("deed", 2)]) (g := gName 2) (by rfl) scKDeeds.nd (pi_tup (pv 0)) (blkOk_by (own := [("deed", 2)]) (N := ["deeds", "known", "deed"]) (sc := defScope sKDeeds) (by decide +kernel))
      (fun _ _ _ _ _ => pg_name (i := 2) scKDeeds.nd rfl (Or.inl rfl)) (fun _ _ _ _ _ => pts_one (PW.pt (pw_or (pt_cmp (pc_isN (pv 1))) (pw_or1 (pt_cmpR op_le (pe_ix (r := rIxT K) ix_tup (pv 2) pe_int (fun _ _ => rfl)) (pv 1) (nomark _)))))) (fun _ _ _ _ _ => pv 2))), ?_⟩
  have lu : us.length = ds.length := Paired.length hD
  refine ⟨_, rfl, A, rfl, ⟨_, SqT.of hA⟩, fun D nD => ?_⟩
  refine lc_tup (K := K) (a := A) (xs := us) (fun i H1 => ∃ xs : List V, H1 D = some (.lst xs) ∧ xs.length ≤ i ∧ Paired (DeedOk H1) xs ((ds.take i).filter fun d => known un d.1) ∧ Same H H1) ⟨[], upd_same, Nat.le_refl _, .nil, same_new nD _⟩ (fun i H1 _ ⟨_, _, _, _, s1⟩ => SqT.of (s1 _ _ hA)) ?_ ?_
  · rintro i x H1 hi ⟨xs, x1, x2, x3, s1⟩
    obtain ⟨d, hd, D0⟩ := paired_at hD hi
    have D1 := D0.keep (Keep.of s1)
    have il : i < 60 := by
      have := (List.getElem?_eq_some_iff.mp hd).1
      omega
    have tk : (ds.take (i + 1)).filter (fun d => known un d.1) = (ds.take i).filter (fun d => known un d.1) ++ (if known un d.1 = true then [d] else []) := by
      rw [List.take_add_one, hd, List.filter_append]
      cases hc : known un d.1 <;> simp [hc]
    have yes : known un d.1 = true → ∃ acc, H1 D = some (.lst acc) ∧ acc.length < sizeLine ∧ ∃ xs : List V, (upd H1 D (.lst (acc ++ [x]))) D = some (.lst xs) ∧ xs.length ≤ i + 1 ∧ Paired (DeedOk (upd H1 D (.lst (acc ++ [x])))) xs ((ds.take (i + 1)).filter fun d => known un d.1) ∧ Same H (upd H1 D (.lst (acc ++ [x]))) := fun hk => by
      have kD : Keep H1 (upd H1 D (.lst (xs ++ [x]))) := fun a us e => by
        rw [upd_ne (ne_of e x1 (by intro z; cases z))]
        exact e
      refine ⟨xs, x1, small1000 (by omega), xs ++ [x], upd_same, by rw [List.length_append]; show xs.length + 1 ≤ _; omega, ?_, fun b o e => ?_⟩
      · rw [tk, if_pos hk]
        exact paired_snoc (D1.keep kD) (paired_mono (fun _ _ z => z.keep kD) x3)
      · rw [upd_ne (ne_of_none e nD)]
        exact s1 _ _ e
    refine ⟨rfl, untilV un, rfl, _, rfl, ?_⟩
    cases un with
    | none => exact tt2 rfl (tt2 rfl ⟨_, rfl, yes rfl⟩)
    | some k =>
      obtain ⟨t, S, ss, rfl, ht, _⟩ := D1
      refine ff2 rfl ⟨_, rfl, t, _, _, _, rfl, rfl, SqT.of ht, rfl, _, rfl, _, _, rfl, rfl, _, rfl, ite2 (fun c => ⟨_, rfl, yes c⟩) (fun c => ⟨xs, x1, by omega, ?_, s1⟩)⟩
      rw [tk, if_neg (show ¬ known (some k) d.1 = true from c), List.append_nil]
      exact x3
  rintro H1 ⟨xs, x1, x2, x3, s1⟩
  rw [lu, List.take_length] at x3
  exact qq D xs H1 nD x1 x3 s1
end
end Q20
namespace Q20
open PySem L2 L2.Gd L2.SetL Ln
abbrev sWorths : Stmt := top 12
def spWorths : Sp := fun vs H Q _ => ∃ (v : V) (s : Stp), vs = [v] ∧ StepOk H v s ∧ Q s.wv H
section
variable {P : Program} {w : World} {K : PySem.W.Frag} {mg : Str → Option Value} {base : Heap}
variable {f : Addr} {fd : FuncData}
theorem scWorths : FnScope ["step"] ["step"] (defScope sWorths) := ⟨rfl, rfl, rfl, by decide +kernel, rfl, by decide +kernel, by decide +kernel⟩
theorem ok_worths (F : Fun K "worths_of" "worths_of" sWorths f fd) : FnOk P w K mg base CX0 1 f fd ["step"] spWorths := by
  refine F.ok scWorths (fun vs H Q E h => ?_) (fun cdv A outer s H vs Q E hr h => ?_)
  · obtain ⟨v, s, rfl, _⟩ := h
    rfl
  obtain ⟨v, st, rfl, ⟨ok, t, rfl, ht⟩, qq⟩ := h
  refine ⟨_, pss_one (ps_ret (pe_ifExp (pt_cmpR op_eq (pe_ix ix_tup (pv 0) pe_int (fun _ _ => rfl)) pe_str (nomark _)) (pe_ix ix_tup (pv 0) pe_int (fun _ _ => rfl)) pe_non)), ?_⟩
  rcases ht with ⟨hv, hd, ht⟩ | ⟨u, xs, ds, hv, hd, hu, lx, td, ht⟩
  · rw [hv] at qq
    exact ⟨_, rfl, t, _, _, _, rfl, rfl, SqT.of ht, rfl, rfl, _, rfl, ff2 (by decide +kernel) qq⟩
  · rw [hv] at qq
    exact ⟨_, rfl, t, _, _, _, rfl, rfl, SqT.of ht, rfl, rfl, _, rfl, tt2 (by decide +kernel) ⟨_, rfl, t, _, _, _, rfl, rfl, SqT.of ht, rfl, qq⟩⟩
end
end Q20
namespace Q20
open PySem L2 L2.Gd L2.SetL Ln
abbrev sKSteps : Stmt := top 15
def KRow (H : Hp) (v : V) (x : Nat × Nat × Stp) : Prop := ∃ (t : Addr) (u : V), v = .ref t ∧ H t = some (.tup [.int (x.1 : Int), .int (x.2.1 : Int), u]) ∧ StepOk H u x.2.2
theorem KRow.keep {H H' : Hp} {v : V} {x : Nat × Nat × Stp} (h : KRow H v x) (k : Keep H H') : KRow H' v x := by
  obtain ⟨t, u, a, b, c⟩ := h
  exact ⟨t, u, a, k _ _ b, c.keep k⟩
def spKSteps : Sp := fun vs H Q _ => ∃ (A : Addr) (un : Option Int) (y z : Str) (us : List V) (ds : List (Int × List Stp)), vs = [.ref A, .str y, .str z, untilV un] ∧ H A = some (.tup us) ∧ Paired (DeedOk H) us ds ∧ ds.length ≤ 60 ∧
  ∀ (L : Addr) (bs : List V) (H' : Hp), H' L = some (.lst bs) → Paired (KRow H') bs (sel y z none (ds.filter fun d => known un d.1)) → bs.length ≤ 240 → Same H H' → Q (.ref L) H'
section
variable {P : Program} {w : World} {K : PySem.W.Frag} {mg : Str → Option Value} {base : Heap}
variable {f fD : Addr} {fd fdD : FuncData}
abbrev kstepsN : List Str := ["deeds", "table", "key", "known", "told", "at", "day", "steps", "place", "step"]
theorem scKSteps : FnScope kstepsN ["deeds", "table", "key", "known"] (defScope sKSteps) := ⟨rfl, rfl, rfl, by decide +kernel, rfl, by decide +kernel, by decide +kernel⟩
theorem ok_ksteps (F : Fun K "known_steps" "known_steps" sKSteps f fd) (GD : FnOk P w K mg base CX0 1 fD fdD ["deeds", "known"] spKDeeds) (bD : Binds K fdD ["deeds", "known"] []) (kD : PySem.W.keepIn K (.ref fD) = true) (mD : mg "known_deeds" = some (.ref fD)) (me : mg "enumerate" = none) :
    FnOk P w K mg base CX0 2 f fd ["deeds", "table", "key", "known"] spKSteps := by
  refine F.ok scKSteps (fun vs H Q E h => ?_) (fun cdv A outer s H vs Q E hr h => ?_)
  · obtain ⟨A, un, y, z, us, ds, rfl, _⟩ := h
    rfl
  have hr1 : Room 1 _ := hr.mono (by decide)
  obtain ⟨A, un, y, z, us, ds, rfl, hA, hD, lD, qq⟩ := h
  refine ⟨_, pss_cons (ps_set (i := 4) scKSteps.nd rfl (Or.inl rfl) (pe_lst pa_nil))
    (pss_cons (ps_for PassesOwn.never rfl (pi_enum (by rfl) me (pa_cons (pe_call GD hr1 (by rfl) mD kD bD .nil pass0 (pa_cons (pv 0) (pa_cons (pv 3) pa_nil))) pa_nil)) (pg_tup rfl (pgs_cons (pg_name (i := 5) scKSteps.nd rfl (.inl rfl)) (pgs_cons (pg_tup rfl (pgs_cons (pg_name (i := 6) scKSteps.nd rfl (.inl rfl)) (pgs_cons (pg_name (i := 7) scKSteps.nd rfl (.inl rfl)) pgs_nil))) pgs_nil)))
      (pss_one (ps_for PassesOwn.never rfl (EnT.pi_enT (by rfl) me (pa_cons (pv 7) pa_nil)) (pg_tup rfl (pgs_cons (pg_name (i := 8) scKSteps.nd rfl (.inl rfl)) (pgs_cons (pg_name (i := 9) scKSteps.nd rfl (.inl rfl)) pgs_nil)))
        (pss_one (ps_if (PW.pt (pw_and (pt_cmpR op_eq (pe_ix ix_tup (pv 9) pe_int (fun _ _ => rfl)) (pv 1) (nomark _)) (pw_and1 (pt_cmpR op_eq (pe_ix ix_tup (pv 9) pe_int (fun _ _ => rfl)) (pv 2) (nomark _)))))
          (pss_one (ps_expr (pe_bm PySem.F.plainAttrs_list PySem.F.slot_list_append PySem.F.type_list_append mt_append (pv 4) (pa_cons (pe_tup (pa_cons (pv 5) (pa_cons (pv 8) (pa_cons (pv 9) pa_nil)))) pa_nil)))) pss_nil)))))
    (pss_one (ps_ret (pv 4)))), ?_⟩
  refine ⟨(by show 0 ≤ sizeLine; decide), fun Z nZ => ?_⟩
  have gZ : Same H _ := same_new nZ (.lst [])
  refine ⟨_, rfl, _, rfl, A, un, us, ds, rfl, gZ _ _ hA, paired_mono (fun _ _ c => c.keep (Keep.of gZ)) hD, lD, fun M xs H0 nM hM hDk s0 => ?_⟩
  obtain ⟨dk, edk⟩ : ∃ dk, dk = ds.filter fun d => known un d.1 := ⟨_, rfl⟩
  rw [← edk] at hDk qq
  have ldk : dk.length ≤ 60 := by rw [edk]; exact Nat.le_trans (List.length_filter_le ..) lD
  have lu : xs.length = dk.length := Paired.length hDk
  have nMZ : M ≠ Z := (ne_of_none upd_same nM).symm
  have hZ0 := s0 _ _ (upd_same : (upd H Z (.lst [])) Z = some (.lst []))
  have sH0 := gZ.trans s0
  refine ⟨M, xs, rfl, SqL.of hM, ?_⟩
  refine for_it (walk_enum (K := K) (a := M) (xs := xs)) (fun i σ' H1 => ∃ (v5 v6 v7 v8 v9 : Option V) (bs : List V), σ' = [some (.ref A), some (.str y), some (.str z), some (untilV un), some (.ref Z), v5, v6, v7, v8, v9] ∧ H1 Z = some (.lst bs) ∧ Paired (KRow H1) bs (sel y z none (dk.take i)) ∧ bs.length ≤ 4 * i ∧ Same H H1 ∧ Keep H0 H1 ∧ H1 M = some (.lst xs))
    ⟨none, none, none, none, none, [], rfl, hZ0, .nil, Nat.le_refl _, sH0, Keep.refl _, hM⟩ (fun i σ' H1 _ ⟨_, _, _, _, _, _, _, _, _, _, _, _, m1⟩ => SqL.of m1) ?_ ?_
  · rintro i x σ' H1 H2 hi ⟨v5, v6, v7, v8, v9, bs, rfl, hZ, hR, lb, s1, k1, m1⟩ ⟨T, x1, x2, rfl, nT, rfl, h1, h2⟩
    cases h1
    have gT : Same H1 _ := same_new nT (.tup [.int (i : Nat), x2])
    obtain ⟨d, hd, D1⟩ := paired_at hDk h2
    obtain ⟨dt, S, ss, rfl, hdt, hS, pS, d0, d1, l4⟩ := (D1.keep k1).keep (Keep.of gT)
    refine ⟨T, _, rfl, SqT.of upd_same, rfl, _, _, rfl, _, _, rfl, ⟨dt, _, rfl, SqT.of hdt, rfl, _, _, rfl, _, _, rfl, rfl, rfl, ?_⟩⟩
    have lss : ss.length = d.2.length := Paired.length pS
    have ic : i < 60 := by omega
    refine ⟨_, rfl, S, ss, rfl, SqT.of hS, ?_⟩
    refine for_it (EnT.walk_enT (K := K) (a := S) (xs := ss)) (fun j σ' H3 => ∃ (v8 v9 : Option V) (bs : List V), σ' = [some (.ref A), some (.str y), some (.str z), some (untilV un), some (.ref Z), some (.int (i : Nat)), some (.int d.1), some (.ref S), v8, v9] ∧ H3 Z = some (.lst bs) ∧ Paired (KRow H3) bs (sel y z none (dk.take i) ++ selS y z i (d.2.take j)) ∧ bs.length ≤ 4 * i + j ∧ Same H H3 ∧ Keep (upd H1 T (.tup [.int (i : Nat), .ref dt])) H3 ∧ H3 M = some (.lst xs))
      ⟨v8, v9, bs, rfl, gT _ _ hZ, ?_, by omega, s1.trans gT, Keep.refl _, gT _ _ m1⟩ (fun j σ' H3 _ ⟨_, _, _, _, _, _, _, _, k3, _⟩ => SqT.of (k3 _ _ hS)) ?_ ?_
    · rw [show selS y z i (d.2.take 0) = [] from rfl, List.append_nil]
      exact paired_mono (fun _ _ c => c.keep (Keep.of gT)) hR
    · rintro j x σ' H3 H4 hj ⟨w8, w9, bs, rfl, hZ, hR, lb, s3, k3, m3⟩ ⟨T2, x3, x4, rfl, nT2, rfl, h3, h4⟩
      cases h3
      have gT2 : Same H3 _ := same_new nT2 (.tup [.int (j : Nat), x4])
      obtain ⟨st, hst, S1⟩ := paired_at pS h4
      have S2 := (S1.keep k3).keep (Keep.of gT2)
      obtain ⟨t, hdr, rest, rfl, ht⟩ := S2.names
      have hZ4 := gT2 _ _ hZ
      have hR4 : Paired (KRow (upd H3 T2 (.tup [.int (j : Nat), .ref t]))) bs (sel y z none (dk.take i) ++ selS y z i (d.2.take j)) := paired_mono (fun _ _ c => c.keep (Keep.of gT2)) hR
      have skip : ∀ {a b : Option V}, mine y z st = false → ∃ (v8 v9 : Option V) (bs : List V), [some (.ref A), some (.str y), some (.str z), some (untilV un), some (.ref Z), some (.int (i : Nat)), some (.int d.1), some (.ref S), a, b] = [some (.ref A), some (.str y), some (.str z), some (untilV un), some (.ref Z), some (.int (i : Nat)), some (.int d.1), some (.ref S), v8, v9] ∧ (upd H3 T2 (.tup [.int (j : Nat), .ref t])) Z = some (.lst bs) ∧ Paired (KRow (upd H3 T2 (.tup [.int (j : Nat), .ref t]))) bs (sel y z none (dk.take i) ++ selS y z i (d.2.take (j + 1))) ∧ bs.length ≤ 4 * i + (j + 1) ∧ Same H (upd H3 T2 (.tup [.int (j : Nat), .ref t])) ∧ Keep (upd H1 T (.tup [.int (i : Nat), .ref dt])) (upd H3 T2 (.tup [.int (j : Nat), .ref t])) ∧ (upd H3 T2 (.tup [.int (j : Nat), .ref t])) M = some (.lst xs) := fun hno =>
        ⟨_, _, bs, rfl, hZ4, by rw [selS_take hst, hno]; simpa using hR4, by omega, s3.trans gT2, k3.trans (Keep.of gT2), gT2 _ _ m3⟩
      refine ⟨T2, _, rfl, SqT.of upd_same, rfl, _, _, rfl, _, _, rfl, rfl, _, rfl, t, _, _, .str st.nm, rfl, rfl, SqT.of ht, atI_nat (j := 1) rfl, _, rfl, rfl, _, rfl, ?_⟩
      by_cases c1 : st.nm = y
      · refine tt2 (decide_eq_true (congrArg V.str c1)) ⟨_, rfl, t, _, _, .str st.ky, rfl, rfl, SqT.of ht, atI_nat (j := 2) rfl, _, rfl, rfl, _, rfl, ?_⟩
        by_cases c2 : st.ky = z
        · have hm : mine y z st = true := by unfold mine; rw [decide_eq_true c1, decide_eq_true c2]; rfl
          refine tt2 (decide_eq_true (congrArg V.str c2)) ⟨_, rfl, .inl ⟨rfl, _, SqL.of hZ4⟩, _, rfl, _, rfl, _, rfl, (by rw [sizeLine_eq]; simp), fun r nr => ?_⟩
          have gr : Same _ _ := same_new nr (.tup [.int (i : Nat), .int (j : Nat), .ref t])
          have hZ5 := gr _ _ hZ4
          have kZ : Keep _ (upd (upd (upd H3 T2 (.tup [.int (j : Nat), .ref t])) r (.tup [.int (i : Nat), .int (j : Nat), .ref t])) Z (.lst (bs ++ [.ref r]))) := fun b vs e => by
            rw [upd_ne (ne_of e hZ5 (by intro z; cases z))]
            exact e
          have kk := (Keep.of gr).trans kZ
          refine ⟨Z, bs, _, rfl, rfl, hZ5, small1000 (by omega), _, _, bs ++ [.ref r], rfl, upd_same, ?_, by rw [List.length_append]; show bs.length + 1 ≤ _; omega, fun b o e => ?_, (k3.trans (Keep.of gT2)).trans kk, ?_⟩
          · rw [selS_take hst, hm, if_pos rfl, ← List.append_assoc]
            exact paired_snoc ⟨r, .ref t, rfl, kZ _ _ upd_same, S2.keep kk⟩ (paired_mono (fun _ _ c => c.keep kk) hR4)
          · rw [upd_ne (ne_of_none e nZ)]
            exact gr _ _ (gT2 _ _ (s3 _ _ e))
          · rw [upd_ne nMZ]
            exact gr _ _ (gT2 _ _ m3)
        · exact ff2 (decide_eq_false fun e => c2 (V.str.inj e)) (skip (by unfold mine; rw [decide_eq_false c2, Bool.and_false]))
      · exact ff2 (decide_eq_false fun e => c1 (V.str.inj e)) (ff2 rfl (skip (by unfold mine; rw [decide_eq_false c1, Bool.false_and])))
    · rintro σ' H3 ⟨w8, w9, bs, rfl, hZ, hR, lb, s3, k3, m3⟩
      refine ⟨_, _, _, _, _, bs, rfl, hZ, ?_, by omega, s3, k1.trans ((Keep.of gT).trans k3), m3⟩
      rw [sel_take hd]
      rw [lss, List.take_length] at hR
      exact hR
  · rintro σ' H1 ⟨v5, v6, v7, v8, v9, bs, rfl, hZ, hR, lb, s1, k1, m1⟩
    rw [lu, List.take_length] at hR
    exact ⟨_, rfl, qq Z bs H1 hZ hR (by omega) s1⟩
end
end Q20
namespace Q20
open PySem L2 L2.Gd L2.SetL Ln
abbrev sLineOf : Stmt := top 17
def spLineOf : Sp := fun vs H Q _ => ∃ (A : Addr) (un : Option Int) (y z : Str) (us : List V) (ds : List (Int × List Stp)), vs = [.ref A, .str y, .str z, untilV un] ∧ H A = some (.tup us) ∧ Paired (DeedOk H) us ds ∧ ds.length ≤ 60 ∧
  ∀ (T : Addr) (cs : List V) (qs : List Pt) (H' : Hp), H' T = some (.tup cs) → Pts H' cs qs → Can qs.reverse → (∀ d, textAt qs.reverse d = atR ((sel y z un ds).map fun x => stPt x.2.2) d) → qs.length ≤ 480 → Same H H' → Q (.ref T) H'
abbrev kwL : List (Str × V) := [("known", .non)]
abbrev psL : List Str := ["deeds", "table", "key", "known"]
section
variable {K : PySem.W.Frag} {f : Addr} {fd : FuncData}
theorem kwl_k (F : FunD K "line_of" "line_of" (defArgs sLineOf) (defBody sLineOf) (defScope sLineOf) [] kwL f fd) : KBn K fd psL 3 ["known"] (fun us ws => us ++ ws) (fun vs zs => vs ++ zs) := by
  obtain ⟨mv, h⟩ := FunD.kbinds0 (ps := psL) F 3 ["known"] [] (fun us _ ws => us ++ ws) (by simp) (fun q hq => (nomatch hq)) (fun r1 _ r3 => r1.append r3) (fun D doc pm an cdv ct us mv ws h1 h2 h3 => match us, mv, ws, h1, h2, h3 with | [_, _, _], [], [_], _, _, _ => rfl)
  exact h
theorem kwl_0 (F : FunD K "line_of" "line_of" (defArgs sLineOf) (defBody sLineOf) (defScope sLineOf) [] kwL f fd) : ∃ ds, Vals [.non] ds ∧ Binds K fd psL ds :=
  F.binds0 (ps := psL) 3 (by simp) rfl (fun D doc pm an cdv ct us ks h1 h2 => match us, ks, h1, h2 with | [_, _, _], [_], _, _ => ⟨_, _, _, _, _, _, rfl, rfl, rfl⟩)
end
section
variable {P : Program} {w : World} {K : PySem.W.Frag} {mg : Str → Option Value} {base : Heap}
variable {f fS fW fPt fK : Addr} {fd fdS fdW dPt fdK : FuncData}
abbrev lineN : List Str := ["deeds", "table", "key", "known", "line", "at", "place", "step", "low", "high"]
theorem scLineOf : FnScope lineN psL (defScope sLineOf) := ⟨rfl, rfl, rfl, by decide +kernel, rfl, by decide +kernel, by decide +kernel⟩
theorem ok_lineOf {kws : List (Str × V)} (F : FunD K "line_of" "line_of" (defArgs sLineOf) (defBody sLineOf) (defScope sLineOf) [] kws f fd)
    (GK : FnOk P w K mg base CX0 2 fK fdK ["deeds", "table", "key", "known"] spKSteps) (bK : Binds K fdK ["deeds", "table", "key", "known"] []) (kK : PySem.W.keepIn K (.ref fK) = true) (mK : mg "known_steps" = some (.ref fK))
    (GS : FnOk P w K mg base CX0 1 fS fdS ["step"] spSpanOf) (bS : Binds K fdS ["step"] []) (kS : PySem.W.keepIn K (.ref fS) = true) (mS : mg "span_of" = some (.ref fS))
    (GW : FnOk P w K mg base CX0 1 fW fdW ["step"] spWorths) (bW : Binds K fdW ["step"] []) (kW : PySem.W.keepIn K (.ref fW) = true) (mW : mg "worths_of" = some (.ref fW))
    (FPt : FunD K "painted" "painted" (defArgs sPaint) (defBody sPaint) (defScope sPaint) [] kwP fPt dPt) (GPt : FnOk P w K mg base CX0 3 fPt dPt psP spPaint) (mPt : mg "painted" = some (.ref fPt)) :
    FnOk P w K mg base CX0 4 f fd psL spLineOf := by
  refine F.ok scLineOf (fun vs H Q E h => ?_) (fun cdv A outer s H vs Q E hr h => ?_)
  · obtain ⟨A, un, y, z, us, ds, rfl, _⟩ := h
    rfl
  have hr1 : Room 1 _ := hr.mono (by decide)
  have hr2 : Room 2 _ := hr.mono (by decide)
  obtain ⟨A, un, y, z, us, ds, rfl, hA, hD, lD, qq⟩ := h
  have kPt := FPt.kp
  refine ⟨_, PSs.nox (pss_cons (ps_set (i := 4) scLineOf.nd rfl (Or.inl rfl) (pe_tup pa_nil))
    (pss_cons (ps_for PassesOwn.never rfl (pi_list (pe_call GK hr2 (by rfl) mK kK bK .nil pass0 (pa_cons (pv 0) (pa_cons (pv 1) (pa_cons (pv 2) (pa_cons (pv 3) pa_nil)))))) (pg_tup rfl (pgs_cons (pg_name (i := 5) scLineOf.nd rfl (.inl rfl)) (pgs_cons (pg_name (i := 6) scLineOf.nd rfl (.inl rfl)) (pgs_cons (pg_name (i := 7) scLineOf.nd rfl (.inl rfl)) pgs_nil))))
      (pss_cons (ps_asg (pe_call GS hr1 (by rfl) mS kS bS .nil pass0 (pa_cons (pv 7) pa_nil)) (pg_tup rfl (pgs_cons (pg_name (i := 8) scLineOf.nd rfl (.inl rfl)) (pgs_cons (pg_name (i := 9) scLineOf.nd rfl (.inl rfl)) pgs_nil))))
      (pss_one (ps_set (i := 4) scLineOf.nd rfl (Or.inl rfl) (pe_callN GPt hr (by rfl) mPt kPt (kw_lh FPt) pass0 (pa_cons (pv 4) (pa_cons (pe_call GW hr1 (by rfl) mW kW bW .nil pass0 (pa_cons (pv 7) pa_nil)) pa_nil)) (pk_cons (pv 8) (pk_cons (pv 9) pk_nil)))))))
    (pss_one (ps_ret (pv 4))))), ?_⟩
  refine ⟨(by show 0 ≤ sizeLine; decide), fun T0 n0 => ?_⟩
  have g0 : Same H _ := same_new n0 (.tup [])
  refine ⟨_, rfl, _, rfl, _, rfl, _, rfl, A, un, y, z, us, ds, rfl, g0 _ _ hA, paired_mono (fun _ _ c => c.keep (Keep.of g0)) hD, lD, fun L bs H1 hL hR lb s1 => ?_⟩
  have emptyC : Can ([] : List Pt).reverse := ⟨trivial, trivial, fun q hq => (nomatch hq)⟩
  obtain ⟨sl, esl⟩ : ∃ sl, sl = sel y z none (ds.filter fun d => known un d.1) := ⟨_, rfl⟩
  rw [← esl] at hR
  have lbs : bs.length = sl.length := Paired.length hR
  refine ⟨L, rfl, ⟨_, SqL.of hL⟩, for_list (K := K) (a := L) (xs := bs) (fun i σ' H2 => ∃ (v5 v6 v7 v8 v9 : Option V) (T : Addr) (cs : List V) (qs : List Pt), σ' = [some (.ref A), some (.str y), some (.str z), some (untilV un), some (.ref T), v5, v6, v7, v8, v9] ∧ H2 T = some (.tup cs) ∧ Pts H2 cs qs ∧ Can qs.reverse ∧ (∀ d, textAt qs.reverse d = atR ((sl.take i).map fun x => stPt x.2.2) d) ∧ qs.length ≤ 2 * i ∧ Same H1 H2)
    ⟨none, none, none, none, none, T0, [], [], rfl, s1 _ _ upd_same, .nil, emptyC, fun d => rfl, Nat.le_refl _, Same.refl _⟩ (fun i σ' H2 _ ⟨_, _, _, _, _, _, _, _, _, _, _, _, _, _, k⟩ => SqL.of (k _ _ hL)) ?_ ?_⟩
  · rintro i b σ' H2 hi ⟨v5, v6, v7, v8, v9, T, cs, qs, rfl, hT, hP, can, tx, lq, s2⟩
    obtain ⟨x, hx, R0⟩ := paired_at hR hi
    obtain ⟨t, u, rfl, ht, ok⟩ := R0.keep (Keep.of s2)
    have il : i < 240 := by
      have := (List.getElem?_eq_some_iff.mp hi).1
      omega
    refine ⟨t, _, rfl, SqT.of ht, rfl, _, _, rfl, _, _, rfl, _, _, rfl, rfl, _, rfl, u, x.2.2, rfl, ok, fun t3 H3 ht3 s3 => ⟨t3, _, rfl, SqT.of ht3, rfl, _, _, rfl, _, _, rfl, rfl, ?_⟩⟩
    have ok3 := ok.keep (Keep.of s3)
    refine ⟨_, rfl, _, rfl, u, x.2.2, rfl, ok3, _, rfl, _, rfl, rfl, rfl, T, x.2.2.wv, x.2.2.wd, x.2.2.lo, x.2.2.e, cs, qs, rfl, s3 _ _ hT, pts_keep (Keep.of s3) hP, can, by omega, ok3.what, ok.1.lo0, ok.1.lt, ok.1.le, fun T' cs' qs' H4 hT' hP' can' tx' l' s4 => ?_⟩
    refine ⟨_, _, _, _, _, T', cs', qs', rfl, hT', hP', can', fun d => ?_, by omega, s2.trans (s3.trans s4)⟩
    rw [tx' d, take_more _ hx, atR_snoc, tx d]
    rfl
  · rintro σ' H2 ⟨v5, v6, v7, v8, v9, T, cs, qs, rfl, hT, hP, can, tx, lq, s2⟩
    refine ⟨_, rfl, qq T cs qs H2 hT hP can (fun d => ?_) (by omega) (g0.trans (s1.trans s2))⟩
    rw [tx d, lbs, List.take_length, esl]
    have e := congrArg (List.map stPt) (sel_same y z un ds)
    rw [List.map_map, List.map_map] at e
    exact (congrArg (fun l => atR l d) e).symm
end
end Q20
namespace Q20
open PySem L2 L2.Gd L2.SetL Ln
abbrev sIn : Stmt := top 2
abbrev sCov : Stmt := top 13
def covS (d : Int) (s : Stp) : Bool := decide (s.lo ≤ d) && decide (d < s.e)
def spIn : Sp := fun vs H Q _ => ∃ lo e d : Int, vs = [.int lo, endV e, .int d] ∧ d ≤ 10 ^ 12 ∧ Q (.bl (decide (lo ≤ d) && decide (d < e))) H
def spCov : Sp := fun vs H Q _ => ∃ (v : V) (s : Stp) (d : Int), vs = [v, .int d] ∧ StepOk H v s ∧ d ≤ 10 ^ 12 ∧ ∀ H', Same H H' → Q (.bl (covS d s)) H'
section
variable {P : Program} {w : World} {K : PySem.W.Frag} {mg : Str → Option Value} {base : Heap}
variable {f fS fI : Addr} {fd fdS fdI : FuncData}
theorem scIn : FnScope ["low", "high", "day"] ["low", "high", "day"] (defScope sIn) := ⟨rfl, rfl, rfl, by decide +kernel, rfl, by decide +kernel, by decide +kernel⟩
theorem ok_in (F : Fun K "in_span" "in_span" sIn f fd) : FnOk P w K mg base CX0 1 f fd ["low", "high", "day"] spIn := by
  refine F.ok scIn (fun vs H Q E h => ?_) (fun cdv A outer s H vs Q E hr h => ?_)
  · obtain ⟨lo, e, d, rfl, _⟩ := h
    rfl
  obtain ⟨lo, e, d, rfl, hd, q⟩ := h
  refine ⟨_, pss_one (ps_ret (pe_and (pe_cmpR op_le (pv 0) (pv 2) (nomark _)) (pe_one (pe_or (pe_cmp (pc_isN (pv 1)) rfl) (pe_one (pe_cmpR op_lt (pv 2) (pv 1) (nomark _))))))), ?_⟩
  refine ⟨_, rfl, _, rfl, _, _, rfl, rfl, _, rfl, ?_⟩
  by_cases c1 : lo ≤ d
  · refine tt2 (decide_eq_true c1) ?_
    rw [decide_eq_true c1, Bool.true_and] at q
    refine ⟨endV e, rfl, _, rfl, ?_⟩
    rcases endV_cov (e := e) hd with ⟨ee, c2⟩ | ⟨ee, _⟩
    · rw [ee]
      rw [decide_eq_true c2] at q
      exact iteT q
    · rw [ee]
      exact iteF ⟨_, rfl, _, rfl, _, _, rfl, rfl, q⟩
  · refine ff2 (decide_eq_false c1) ?_
    rw [decide_eq_false c1, Bool.false_and] at q
    exact q
theorem scCov : FnScope ["step", "day", "low", "high"] ["step", "day"] (defScope sCov) := ⟨rfl, rfl, rfl, by decide +kernel, rfl, by decide +kernel, by decide +kernel⟩
theorem ok_cov (F : Fun K "covers" "covers" sCov f fd) (GS : FnOk P w K mg base CX0 1 fS fdS ["step"] spSpanOf) (bS : Binds K fdS ["step"] []) (kS : PySem.W.keepIn K (.ref fS) = true) (mS : mg "span_of" = some (.ref fS))
    (GI : FnOk P w K mg base CX0 1 fI fdI ["low", "high", "day"] spIn) (bI : Binds K fdI ["low", "high", "day"] []) (kI : PySem.W.keepIn K (.ref fI) = true) (mI : mg "in_span" = some (.ref fI)) :
    FnOk P w K mg base CX0 2 f fd ["step", "day"] spCov := by
  refine F.ok scCov (fun vs H Q E h => ?_) (fun cdv A outer s H vs Q E hr h => ?_)
  · obtain ⟨v, s, d, rfl, _⟩ := h
    rfl
  obtain ⟨v, st, d, rfl, ok, hd, qq⟩ := h
  refine ⟨_, pss_cons (ps_asg (pe_call GS hr (by rfl) mS kS bS .nil pass0 (pa_cons (pv 0) pa_nil)) (pg_tup rfl (pgs_cons (pg_name (i := 2) scCov.nd rfl (.inl rfl)) (pgs_cons (pg_name (i := 3) scCov.nd rfl (.inl rfl)) pgs_nil))))
    (pss_one (ps_ret (pe_call GI hr (by rfl) mI kI bI .nil pass0 (pa_cons (pv 2) (pa_cons (pv 3) (pa_cons (pv 1) pa_nil)))))), ?_⟩
  exact ⟨_, rfl, v, st, rfl, ok, fun t H1 ht s1 => ⟨t, _, rfl, SqT.of ht, rfl, _, _, rfl, _, _, rfl, rfl, _, rfl, _, rfl, _, rfl, st.lo, st.e, d, rfl, hd, qq H1 s1⟩⟩
end
end Q20
namespace Q20
open PySem L2 L2.Gd L2.SetL Ln
abbrev sKLine : Stmt := top 19
def dayOf (ds : List (Int × List Stp)) (k : Nat) : Int := (ds[k]?.map (·.1)).getD 0
/-- the paints of known days: what each step that covers the day puts, from its deed's day on -/
def kPt (ds : List (Int × List Stp)) (x : Nat × Nat × Stp) : Pt := ⟨dayOf ds x.1, 10 ^ 12 + 1, x.2.2.wv, x.2.2.wd.shown⟩
def kPts (y z : Str) (ds : List (Int × List Stp)) (day : Int) : List Pt := ((sel y z none ds).filter fun x => covS day x.2.2).map (kPt ds)
theorem mem_selD {y z : Str} {un : Option Int} {d : Int × List Stp} {k : Nat} {x : Nat × Nat × Stp} (h : x ∈ selD y z un (d, k)) : x.1 = k ∧ x.2.2 ∈ d.2 := by
  unfold selD at h
  split at h
  · obtain ⟨⟨s, j⟩, hs, rfl⟩ := List.mem_map.mp h
    obtain ⟨h1, _⟩ := List.mem_filter.mp hs
    refine ⟨rfl, ?_⟩
    show s ∈ d.2
    rw [(List.mem_zipIdx h1).2.2]
    exact List.getElem_mem _
  · cases h
theorem zip_at {α : Type} {l : List α} {x : α} {k : Nat} (h : (x, k) ∈ l.zipIdx) : l[k]? = some x := by
  obtain ⟨h1, h2, h3⟩ := List.mem_zipIdx h
  rw [h3]
  simp only [Nat.sub_zero]
  exact List.getElem?_eq_getElem _
theorem flat_congr {α β : Type} : ∀ (l : List α) (f g : α → List β), (∀ a ∈ l, f a = g a) → l.flatMap f = l.flatMap g
  | [], _, _, _ => rfl
  | a :: r, f, g, h => by rw [List.flatMap_cons, List.flatMap_cons, h a (List.mem_cons_self ..), flat_congr r f g fun b hb => h b (List.mem_cons_of_mem _ hb)]
theorem sel_day {y z : Str} {a : Int} (ds : List (Int × List Stp)) : sel y z (some a) ds = (sel y z none ds).filter fun x => decide (dayOf ds x.1 ≤ a) := by
  unfold sel
  rw [List.filter_flatMap]
  refine flat_congr _ _ _ fun p hp => ?_
  obtain ⟨d, k⟩ := p
  have hd := zip_at hp
  have e : dayOf ds k = d.1 := by unfold dayOf; rw [hd]; rfl
  unfold selD
  by_cases c : d.1 ≤ a
  · rw [if_pos (show known (some a) d.1 = true from decide_eq_true c), if_pos (by rfl)]
    refine (List.filter_eq_self.mpr fun x hx => ?_).symm
    obtain ⟨⟨s, j⟩, hs, rfl⟩ := List.mem_map.mp hx
    rw [e]
    exact decide_eq_true c
  · rw [if_neg (show ¬ known (some a) d.1 = true from fun z => c (of_decide_eq_true z)), if_pos (by rfl)]
    refine (List.filter_eq_nil_iff.mpr fun x hx => ?_).symm
    obtain ⟨⟨s, j⟩, hs, rfl⟩ := List.mem_map.mp hx
    rw [e]
    exact fun z => c (of_decide_eq_true z)
theorem sel_ok {H : Hp} {us : List V} {ds : List (Int × List Stp)} (hD : Paired (DeedOk H) us ds) {y z : Str} {un : Option Int} {x : Nat × Nat × Stp} (hx : x ∈ sel y z un ds) : (∃ v, StepOk H v x.2.2) ∧ 0 ≤ dayOf ds x.1 ∧ dayOf ds x.1 ≤ 10 ^ 12 ∧ x.1 < ds.length := by
  obtain ⟨⟨d, k⟩, hd, hx⟩ := List.mem_flatMap.mp hx
  obtain ⟨e1, e2⟩ := mem_selD hx
  have hk := zip_at hd
  obtain ⟨b, t, S, ss, _, _, _, pS, d0, d1, _⟩ := paired_mem hD d (List.mem_of_getElem? hk)
  obtain ⟨v, hv⟩ := paired_mem pS x.2.2 e2
  have e : dayOf ds x.1 = d.1 := by rw [e1]; unfold dayOf; rw [hk]; rfl
  rw [e, e1]
  exact ⟨⟨v, hv⟩, d0, d1, (List.getElem?_eq_some_iff.mp hk).1⟩
theorem kPts_last {y z : Str} {ds : List (Int × List Stp)} {day a : Int} (ha : a ≤ 10 ^ 12) : lastAt (kPts y z ds day) a = (((sel y z (some a) ds).filter fun x => covS day x.2.2).getLast?).map (kPt ds) := by
  unfold lastAt kPts
  rw [← List.map_reverse, List.find?_map, ← List.head?_filter, List.filter_reverse, List.head?_reverse, sel_day, List.filter_filter, List.filter_filter]
  congr 2
  refine List.filter_congr fun x _ => ?_
  show ((decide (dayOf ds x.1 ≤ a) && decide (a < 10 ^ 12 + 1)) && _) = _
  rw [decide_eq_true (show a < 10 ^ 12 + 1 by omega), Bool.and_true, Bool.and_comm]
section
variable {H : Hp} {us : List V} {ds : List (Int × List Stp)} {y z : Str} {day : Int}
theorem kPts_ok (hD : Paired (DeedOk H) us ds) : ∀ p ∈ kPts y z ds day, (∃ d, WhatOk H p.v d ∧ p.r = d.shown) ∧ 0 ≤ p.lo ∧ p.lo ≤ 10 ^ 12 ∧ p.e = 10 ^ 12 + 1 := fun p hp => by
  obtain ⟨x, hx, rfl⟩ := List.mem_map.mp hp
  obtain ⟨⟨v, hv⟩, h1, h2, _⟩ := sel_ok hD (List.mem_filter.mp hx).1
  exact ⟨⟨_, hv.what, rfl⟩, h1, h2, rfl⟩
theorem kPts_plain (hD : Paired (DeedOk H) us ds) : Plain (kPts y z ds day) := fun p hp hv => by
  obtain ⟨⟨d, hd, e⟩, _⟩ := kPts_ok hD p hp
  rw [hv] at hd
  rw [e, hd.non]
  rfl
theorem kPts_solid (hD : Paired (DeedOk H) us ds) : Solid (kPts y z ds day) := fun p hp hv => by
  obtain ⟨⟨d, hd, e⟩, _⟩ := kPts_ok hD p hp
  rw [e]
  exact hd.full hv
end
def spKLine : Sp := fun vs H Q _ => ∃ (A : Addr) (y z : Str) (day : Int) (us : List V) (ds : List (Int × List Stp)), vs = [.ref A, .str y, .str z, .int day] ∧ day ≤ 10 ^ 12 ∧ H A = some (.tup us) ∧ Paired (DeedOk H) us ds ∧ ds.length ≤ 60 ∧
  ∀ (T : Addr) (cs : List V) (qs : List Pt) (H' : Hp), H' T = some (.tup cs) → Pts H' cs qs → Can qs.reverse → (∀ d, textAt qs.reverse d = atR (kPts y z ds day) d) → qs.length ≤ 480 → Same H H' → Q (.ref T) H'
section
variable {P : Program} {w : World} {K : PySem.W.Frag} {mg : Str → Option Value} {base : Heap}
variable {f fC fW fPt fK : Addr} {fd fdC fdW dPt fdK : FuncData}
abbrev klineN : List Str := ["deeds", "table", "key", "day", "line", "at", "place", "step"]
theorem scKLine : FnScope klineN ["deeds", "table", "key", "day"] (defScope sKLine) := ⟨rfl, rfl, rfl, by decide +kernel, rfl, by decide +kernel, by decide +kernel⟩
theorem ok_kline (F : Fun K "known_line" "known_line" sKLine f fd)
    (GK : FnOk P w K mg base CX0 2 fK fdK ["deeds", "table", "key", "known"] spKSteps) (bK : Binds K fdK ["deeds", "table", "key", "known"] []) (kK : PySem.W.keepIn K (.ref fK) = true) (mK : mg "known_steps" = some (.ref fK))
    (GC : FnOk P w K mg base CX0 2 fC fdC ["step", "day"] spCov) (bC : Binds K fdC ["step", "day"] []) (kC : PySem.W.keepIn K (.ref fC) = true) (mC : mg "covers" = some (.ref fC))
    (GW : FnOk P w K mg base CX0 1 fW fdW ["step"] spWorths) (bW : Binds K fdW ["step"] []) (kW : PySem.W.keepIn K (.ref fW) = true) (mW : mg "worths_of" = some (.ref fW))
    (FPt : FunD K "painted" "painted" (defArgs sPaint) (defBody sPaint) (defScope sPaint) [] kwP fPt dPt) (GPt : FnOk P w K mg base CX0 3 fPt dPt psP spPaint) (mPt : mg "painted" = some (.ref fPt)) :
    FnOk P w K mg base CX0 4 f fd ["deeds", "table", "key", "day"] spKLine := by
  refine F.ok scKLine (fun vs H Q E h => ?_) (fun cdv A outer s H vs Q E hr h => ?_)
  · obtain ⟨A, y, z, day, us, ds, rfl, _⟩ := h
    rfl
  have hr1 : Room 1 _ := hr.mono (by decide)
  have hr2 : Room 2 _ := hr.mono (by decide)
  obtain ⟨A, y, z, day, us, ds, rfl, hday, hA, hD, lD, qq⟩ := h
  have kPt_ := FPt.kp
  obtain ⟨mv, kwl⟩ := kw_l FPt
  refine ⟨_, pss_cons (ps_set (i := 4) scKLine.nd rfl (Or.inl rfl) (pe_tup pa_nil))
    (pss_cons (ps_for PassesOwn.never rfl (pi_list (pe_call GK hr2 (by rfl) mK kK bK .nil pass0 (pa_cons (pv 0) (pa_cons (pv 1) (pa_cons (pv 2) (pa_cons pe_non pa_nil)))))) (pg_tup rfl (pgs_cons (pg_name (i := 5) scKLine.nd rfl (.inl rfl)) (pgs_cons (pg_name (i := 6) scKLine.nd rfl (.inl rfl)) (pgs_cons (pg_name (i := 7) scKLine.nd rfl (.inl rfl)) pgs_nil))))
      (pss_one (ps_if (pt_val (pe_call GC hr2 (by rfl) mC kC bC .nil pass0 (pa_cons (pv 7) (pa_cons (pv 3) pa_nil))))
        (pss_one (ps_set (i := 4) scKLine.nd rfl (Or.inl rfl) (pe_callN GPt hr (by rfl) mPt kPt_ kwl pass0 (pa_cons (pv 4) (pa_cons (pe_call GW hr1 (by rfl) mW kW bW .nil pass0 (pa_cons (pv 7) pa_nil)) pa_nil)) (pk_cons (pe_ix ix_tup (pe_ix ix_tup (pv 0) (pv 5) (fun _ _ => rfl)) pe_int (fun _ _ => rfl)) pk_nil)))) pss_nil)))
    (pss_one (ps_ret (pv 4)))), ?_⟩
  refine ⟨(by show 0 ≤ sizeLine; decide), fun T0 n0 => ?_⟩
  have g0 : Same H _ := same_new n0 (.tup [])
  have filt : (ds.filter fun d => known none d.1) = ds := List.filter_eq_self.mpr fun _ _ => rfl
  refine ⟨_, rfl, _, rfl, _, rfl, A, none, y, z, us, ds, rfl, g0 _ _ hA, paired_mono (fun _ _ c => c.keep (Keep.of g0)) hD, lD, fun L bs H1 hL hR lb s1 => ?_⟩
  rw [filt] at hR
  have emptyC : Can ([] : List Pt).reverse := ⟨trivial, trivial, fun q hq => (nomatch hq)⟩
  have lbs : bs.length = (sel y z none ds).length := Paired.length hR
  have sH1 := g0.trans s1
  refine ⟨L, rfl, ⟨_, SqL.of hL⟩, for_list (K := K) (a := L) (xs := bs) (fun i σ' H2 => ∃ (v5 v6 v7 : Option V) (T : Addr) (cs : List V) (qs : List Pt), σ' = [some (.ref A), some (.str y), some (.str z), some (.int day), some (.ref T), v5, v6, v7] ∧ H2 T = some (.tup cs) ∧ Pts H2 cs qs ∧ Can qs.reverse ∧ (∀ d, textAt qs.reverse d = atR ((((sel y z none ds).take i).filter fun x => covS day x.2.2).map (kPt ds)) d) ∧ qs.length ≤ 2 * i ∧ Same H1 H2)
    ⟨none, none, none, T0, [], [], rfl, s1 _ _ upd_same, .nil, emptyC, fun d => rfl, Nat.le_refl _, Same.refl _⟩ (fun i σ' H2 _ ⟨_, _, _, _, _, _, _, _, _, _, _, _, k⟩ => SqL.of (k _ _ hL)) ?_ ?_⟩
  · rintro i b σ' H2 hi ⟨v5, v6, v7, T, cs, qs, rfl, hT, hP, can, tx, lq, s2⟩
    obtain ⟨x, hx, R0⟩ := paired_at hR hi
    obtain ⟨t, u, rfl, ht, ok⟩ := R0.keep (Keep.of s2)
    obtain ⟨_, dy0, dy1, xl⟩ := sel_ok hD (List.mem_of_getElem? hx)
    have il : i < 240 := by
      have := (List.getElem?_eq_some_iff.mp hi).1
      omega
    have tk : (((sel y z none ds).take (i + 1)).filter fun x => covS day x.2.2) = (((sel y z none ds).take i).filter fun x => covS day x.2.2) ++ (if covS day x.2.2 = true then [x] else []) := by
      rw [List.take_add_one, hx, List.filter_append]
      cases hc : covS day x.2.2 <;> simp [hc]
    refine ⟨t, _, rfl, SqT.of ht, rfl, _, _, rfl, _, _, rfl, _, _, rfl, rfl, _, rfl, _, rfl, u, x.2.2, day, rfl, ok, hday, fun H3 s3 => ⟨_, rfl, ite2 (fun c => ?_) (fun c => ?_)⟩⟩
    · have ok3 := ok.keep (Keep.of s3)
      have s13 := s2.trans s3
      have sH3 := sH1.trans s13
      obtain ⟨d, hd⟩ : ∃ d, ds[x.1]? = some d := ⟨_, List.getElem?_eq_getElem xl⟩
      have lu : us.length = ds.length := Paired.length hD
      obtain ⟨dv, hdv⟩ : ∃ dv, us[x.1]? = some dv := ⟨_, List.getElem?_eq_getElem (by omega)⟩
      obtain ⟨d', hd', D1⟩ := paired_at hD hdv
      rw [hd] at hd'
      cases hd'
      obtain ⟨dt, S, ss, rfl, hdt, _⟩ := D1.keep (Keep.of sH3)
      have eday : dayOf ds x.1 = d.1 := by unfold dayOf; rw [hd]; rfl
      refine ⟨_, rfl, _, rfl, u, x.2.2, rfl, ok3, _, rfl, _, rfl, A, us, _, _, rfl, rfl, SqT.of (sH3 _ _ hA), atI_nat (j := x.1) hdv, dt, _, _, _, rfl, rfl, SqT.of hdt, rfl, rfl, rfl, T, x.2.2.wv, x.2.2.wd, d.1, 10 ^ 12 + 1, cs, qs, rfl, s3 _ _ hT, pts_keep (Keep.of s3) hP, can, by omega, ok3.what, by omega, by omega, Int.le_refl _, fun T' cs' qs' H4 hT' hP' can' tx' l' s4 => ?_⟩
      refine ⟨_, _, _, T', cs', qs', rfl, hT', hP', can', fun e => ?_, by omega, s13.trans s4⟩
      rw [tx' e, tk, if_pos c, List.map_append, show List.map (kPt ds) [x] = [kPt ds x] from rfl, atR_snoc, tx e]
      show _ = if dayOf ds x.1 ≤ e ∧ e < 10 ^ 12 + 1 then x.2.2.wd.shown else _
      rw [eday]
    · refine ⟨_, _, _, T, cs, qs, rfl, s3 _ _ hT, pts_keep (Keep.of s3) hP, can, fun e => ?_, by omega, s2.trans s3⟩
      rw [tx e, tk, if_neg c, List.append_nil]
  · rintro σ' H2 ⟨v5, v6, v7, T, cs, qs, rfl, hT, hP, can, tx, lq, s2⟩
    refine ⟨_, rfl, qq T cs qs H2 hT hP can (fun d => ?_) (by omega) (sH1.trans s2)⟩
    rw [tx d, lbs, List.take_length]
    rfl
end
end Q20
namespace Q20
open PySem L2 L2.Gd L2.SetL Ln
abbrev sToldBy : Stmt := top 21
/-- a known step as a paint of its numbers -/
def numPt (x : Nat × Nat × Stp) : Pt := ⟨x.2.2.lo, x.2.2.e, .non, (PyData.tuple [.int (x.1 : Int), .int (x.2.1 : Int)]).shown⟩
theorem atR_key {a b : List Pt} (h : a.map key = b.map key) (d : Int) : atR a d = atR b d := by
  have e : ∀ l : List Pt, (lastAt l d).map key = ((l.map key).reverse).find? fun k => decide (k.1 ≤ d) && decide (d < k.2.1) := fun l => by
    unfold lastAt
    rw [← List.map_reverse, List.find?_map]
    rfl
  have f : ∀ l : List Pt, atR l d = (((lastAt l d).map key).map fun k => k.2.2).getD nonR := fun l => by
    unfold atR
    cases lastAt l d <;> rfl
  rw [f, f, e, e, h]
theorem row_num (rs : List Row) : (rs.map (Row.pt 0)).map key = ((rs.map Row.key).map numPt).map key := by
  rw [List.map_map, List.map_map, List.map_map]
  rfl
theorem sel_known {y z : Str} {un : Option Int} : ∀ (ds : List (Int × List Stp)) (n : Nat), (ds.map (·.1)).Pairwise (· ≤ ·) → (ds.zipIdx n).flatMap (selD y z un) = ((ds.filter fun d => known un d.1).zipIdx n).flatMap (selD y z none)
  | [], _, _ => rfl
  | d :: r, n, h => by
    rw [List.map_cons, List.pairwise_cons] at h
    have ih := sel_known (y := y) (z := z) (un := un) r (n + 1) h.2
    rw [List.zipIdx_cons, List.flatMap_cons, ih]
    cases hk : known un d.1 with
    | true =>
      rw [List.filter_cons_of_pos (by exact hk), List.zipIdx_cons, List.flatMap_cons]
      congr 1
      unfold selD
      rw [if_pos hk]
      rfl
    | false =>
      have none_ : ∀ e ∈ r, ¬ known un e.1 = true := fun e he => by
        have := h.1 e.1 (List.mem_map.mpr ⟨e, he, rfl⟩)
        cases un with
        | none => cases hk
        | some k =>
          have h1 : ¬ d.1 ≤ k := by simpa [known] using hk
          show ¬ decide (e.1 ≤ k) = true
          rw [decide_eq_true_eq]
          omega
      rw [List.filter_cons_of_neg (by rw [hk]; decide), List.filter_eq_nil_iff.mpr none_]
      unfold selD
      rw [if_neg (by rw [hk]; decide)]
      rfl
theorem sel_all {y z : Str} {un : Option Int} {ds : List (Int × List Stp)} (h : (ds.map (·.1)).Pairwise (· ≤ ·)) : sel y z un ds = sel y z none (ds.filter fun d => known un d.1) := sel_known ds 0 h
def lastK (xs : List (Nat × Nat × Stp)) (d : Int) : Option (Nat × Nat × Stp) := (xs.filter fun x => covS d x.2.2).getLast?
theorem last_key (rs : List Row) (d : Int) : lastK (rs.map Row.key) d = (lastRow rs d).map Row.key := by
  unfold lastK lastRow
  rw [List.filter_map, List.getLast?_map]
  rfl
abbrev kwK : List (Str × V) := [("known", .non)]
abbrev psT : List Str := ["deeds", "table", "key", "day", "known"]
abbrev psN : List Str := ["deeds", "table", "key", "known"]
def spToldBy : Sp := fun vs H Q _ => ∃ (A : Addr) (un : Option Int) (y z : Str) (d : Int) (us : List V) (ds : List (Int × List Stp)), vs = [.ref A, .str y, .str z, .int d, untilV un] ∧ d ≤ 10 ^ 12 ∧ H A = some (.tup us) ∧ Paired (DeedOk H) us ds ∧ ds.length ≤ 60 ∧
  ∀ (v : V) (H' : Hp), Same H H' → (∀ x, lastK (sel y z none (ds.filter fun d => known un d.1)) d = some x → ∃ t, v = .ref t ∧ H' t = some (.tup [.int (x.1 : Int), .int (x.2.1 : Int)]) ∧ x.1 ≤ 1000 ∧ x.2.1 ≤ 1000) → (lastK (sel y z none (ds.filter fun d => known un d.1)) d = none → v = .non) → Q v H'
/-- numbers of deeds and steps are small -/
theorem sel_small {y z : Str} {ds : List (Int × List Stp)} (h1 : ds.length ≤ 60) (h2 : ∀ d ∈ ds, d.2.length ≤ 4) {x : Nat × Nat × Stp} (hx : x ∈ sel y z none ds) : x.1 ≤ 1000 ∧ x.2.1 ≤ 1000 := by
  obtain ⟨⟨d, k⟩, hd, hx⟩ := List.mem_flatMap.mp hx
  unfold selD at hx
  rw [if_pos (by rfl)] at hx
  obtain ⟨⟨s, j⟩, hs, rfl⟩ := List.mem_map.mp hx
  obtain ⟨a1, _⟩ := List.mem_filter.mp hs
  have b1 := List.mem_zipIdx hd
  have b2 := List.mem_zipIdx a1
  have b3 := h2 d (b1.2.2 ▸ List.getElem_mem _)
  constructor
  · show k ≤ 1000
    have := b1.2.1
    simp at this
    omega
  · show j ≤ 1000
    have := b2.2.1
    simp at this
    omega
section
variable {K : PySem.W.Frag} {f : Addr} {fd : FuncData}
theorem kwt_k (F : FunD K "told_by" "told_by" (defArgs sToldBy) (defBody sToldBy) (defScope sToldBy) [] kwK f fd) : KBn K fd psT 4 ["known"] (fun us ws => us ++ ws) (fun vs zs => vs ++ zs) := by
  obtain ⟨mv, h⟩ := FunD.kbinds0 (ps := psT) F 4 ["known"] [] (fun us _ ws => us ++ ws) (by simp) (fun q hq => (nomatch hq)) (fun r1 _ r3 => r1.append r3) (fun D doc pm an cdv ct us mv ws h1 h2 h3 => match us, mv, ws, h1, h2, h3 with | [_, _, _, _], [], [_], _, _, _ => rfl)
  exact h
theorem kwt_0 (F : FunD K "told_by" "told_by" (defArgs sToldBy) (defBody sToldBy) (defScope sToldBy) [] kwK f fd) : ∃ ds, Vals [.non] ds ∧ Binds K fd psT ds :=
  F.binds0 (ps := psT) 4 (by simp) rfl (fun D doc pm an cdv ct us ks h1 h2 => match us, ks, h1, h2 with | [_, _, _, _], [_], _, _ => ⟨_, _, _, _, _, _, rfl, rfl, rfl⟩)
end
section
variable {P : Program} {w : World} {K : PySem.W.Frag} {mg : Str → Option Value} {base : Heap}
variable {f fS fC fPt fK : Addr} {fd fdS fdC dPt fdK : FuncData}
abbrev toldByN : List Str := ["deeds", "table", "key", "day", "known", "last", "at", "place", "step"]
theorem scToldBy : FnScope toldByN psT (defScope sToldBy) := ⟨rfl, rfl, rfl, by decide +kernel, rfl, by decide +kernel, by decide +kernel⟩
theorem ok_toldBy {kws : List (Str × V)} (F : FunD K "told_by" "told_by" (defArgs sToldBy) (defBody sToldBy) (defScope sToldBy) [] kws f fd)
    (GK : FnOk P w K mg base CX0 2 fK fdK ["deeds", "table", "key", "known"] spKSteps) (bK : Binds K fdK ["deeds", "table", "key", "known"] []) (kK : PySem.W.keepIn K (.ref fK) = true) (mK : mg "known_steps" = some (.ref fK))
    (GC : FnOk P w K mg base CX0 2 fC fdC ["step", "day"] spCov) (bC : Binds K fdC ["step", "day"] []) (kC : PySem.W.keepIn K (.ref fC) = true) (mC : mg "covers" = some (.ref fC)) :
    FnOk P w K mg base CX0 3 f fd psT spToldBy := by
  refine F.ok scToldBy (fun vs H Q E h => ?_) (fun cdv A outer s H vs Q E hr h => ?_)
  · obtain ⟨A, un, y, z, d, us, ds, rfl, _⟩ := h
    rfl
  obtain ⟨A, un, y, z, d, us, ds, rfl, hd, hA, hD, lD, qq⟩ := h
  refine ⟨_, PSs.nox (pss_cons (ps_set (i := 5) scToldBy.nd rfl (Or.inl rfl) pe_non)
    (pss_cons (ps_for PassesOwn.never rfl (pi_list (pe_call GK hr (by rfl) mK kK bK .nil pass0 (pa_cons (pv 0) (pa_cons (pv 1) (pa_cons (pv 2) (pa_cons (pv 4) pa_nil)))))) (pg_tup rfl (pgs_cons (pg_name (i := 6) scToldBy.nd rfl (.inl rfl)) (pgs_cons (pg_name (i := 7) scToldBy.nd rfl (.inl rfl)) (pgs_cons (pg_name (i := 8) scToldBy.nd rfl (.inl rfl)) pgs_nil))))
      (pss_one (ps_if (pt_val (pe_call GC hr (by rfl) mC kC bC .nil pass0 (pa_cons (pv 8) (pa_cons (pv 3) pa_nil)))) (pss_one (ps_set (i := 5) scToldBy.nd rfl (Or.inl rfl) (pe_tup (pa_cons (pv 6) (pa_cons (pv 7) pa_nil))))) pss_nil)))
    (pss_one (ps_ret (pv 5))))), ?_⟩
  have hsm : ∀ x ∈ sel y z none (ds.filter fun d => known un d.1), x.1 ≤ 1000 ∧ x.2.1 ≤ 1000 := fun x hx => sel_small (Nat.le_trans (List.length_filter_le ..) lD) (fun e he => by
    obtain ⟨b, h⟩ := paired_mem hD e (List.mem_filter.mp he).1
    obtain ⟨_, _, _, _, _, _, _, _, _, h4⟩ := h
    exact h4) hx
  refine ⟨_, rfl, _, rfl, _, rfl, _, rfl, A, un, y, z, us, ds, rfl, hA, hD, lD, fun L bs H1 hL hR lb s1 => ?_⟩
  obtain ⟨sl, esl⟩ : ∃ sl, sl = sel y z none (ds.filter fun d => known un d.1) := ⟨_, rfl⟩
  rw [← esl] at hR qq hsm
  have lbs : bs.length = sl.length := Paired.length hR
  refine ⟨L, rfl, ⟨_, SqL.of hL⟩, for_list (K := K) (a := L) (xs := bs) (fun i σ' H2 => ∃ (v6 v7 v8 : Option V) (v : V), σ' = [some (.ref A), some (.str y), some (.str z), some (.int d), some (untilV un), some v, v6, v7, v8] ∧ (∀ x, lastK (sl.take i) d = some x → ∃ t, v = .ref t ∧ H2 t = some (.tup [.int (x.1 : Int), .int (x.2.1 : Int)]) ∧ x.1 ≤ 1000 ∧ x.2.1 ≤ 1000) ∧ (lastK (sl.take i) d = none → v = .non) ∧ Same H1 H2)
    ⟨none, none, none, .non, rfl, fun x hx => (nomatch hx), fun _ => rfl, Same.refl _⟩ (fun i σ' H2 _ ⟨_, _, _, _, _, _, _, k⟩ => SqL.of (k _ _ hL)) ?_ ?_⟩
  · rintro i b σ' H2 hi ⟨v6, v7, v8, v, rfl, h1, h2, s2⟩
    obtain ⟨x, hx, R0⟩ := paired_at hR hi
    obtain ⟨t, u, rfl, ht, ok⟩ := R0.keep (Keep.of s2)
    have tk : lastK (sl.take (i + 1)) d = if covS d x.2.2 = true then some x else lastK (sl.take i) d := by
      unfold lastK
      rw [List.take_add_one, hx, List.filter_append]
      cases hc : covS d x.2.2 <;> simp [hc]
    refine ⟨t, _, rfl, SqT.of ht, rfl, _, _, rfl, _, _, rfl, _, _, rfl, rfl, _, rfl, _, rfl, u, x.2.2, d, rfl, ok, hd, fun H3 s3 => ⟨_, rfl, ite2 (fun c => ?_) (fun c => ?_)⟩⟩
    · refine ⟨_, rfl, _, rfl, (by rw [sizeLine_eq]; simp), fun t2 n2 => ?_⟩
      have g2 : Same H3 _ := same_new n2 (.tup [.int (x.1 : Int), .int (x.2.1 : Int)])
      refine ⟨_, _, _, .ref t2, rfl, fun x' hx' => ?_, fun hx' => ?_, s2.trans (s3.trans g2)⟩
      · rw [tk, if_pos c] at hx'
        cases hx'
        have hs := hsm x (List.mem_of_getElem? hx)
        exact ⟨t2, rfl, upd_same, hs.1, hs.2⟩
      · rw [tk, if_pos c] at hx'
        cases hx'
    · refine ⟨_, _, _, v, rfl, fun x' hx' => ?_, fun hx' => ?_, s2.trans s3⟩
      · rw [tk, if_neg c] at hx'
        obtain ⟨t', e1, e2, e3⟩ := h1 x' hx'
        exact ⟨t', e1, s3 _ _ e2, e3⟩
      · rw [tk, if_neg c] at hx'
        exact h2 hx'
  · rintro σ' H2 ⟨v6, v7, v8, v, rfl, h1, h2, s2⟩
    rw [lbs, List.take_length] at h1 h2
    exact ⟨_, rfl, qq v H2 (s1.trans s2) h1 h2⟩
end
end Q20
namespace Q20
open PySem L2 L2.Gd L2.SetL Ln
abbrev sFound : Stmt := top 4
abbrev sCount : Stmt := top 5
def spCount : Sp := fun vs H Q _ => ∃ (T : Addr) (d : Int) (cs : List V) (qs : List Pt), vs = [.ref T, .int d] ∧ H T = some (.tup cs) ∧ Pts H cs qs ∧ Up qs ∧ qs.length ≤ 2000 ∧
  ∀ k : Nat, k ≤ qs.length → (∀ i q, qs[i]? = some q → (i < k ↔ q.lo ≤ d)) → Q (.int (k : Int)) H
def spFound : Sp := fun vs H Q _ => ∃ (T : Addr) (d : Int) (cs : List V) (qs : List Pt), vs = [.ref T, .int d] ∧ H T = some (.tup cs) ∧ Pts H cs qs ∧ Up qs ∧ qs.length ≤ 2000 ∧ d ≤ 10 ^ 12 ∧
  ∀ (v : V) (x : PyData), WhatOk H v x → x.shown = textAt qs.reverse d → (cs = [] → v = .non) → Q v H
section
variable {P : Program} {w : World} {K : PySem.W.Frag} {mg : Str → Option Value} {base : Heap}
variable {f fC fI : Addr} {fd fdC fdI : FuncData}
theorem scCount : FnScope ["line", "day", "least", "most", "middle"] ["line", "day"] (defScope sCount) := ⟨rfl, rfl, rfl, by decide +kernel, rfl, by decide +kernel, by decide +kernel⟩
theorem lo_mono {qs : List Pt} (h : Up qs) {i j : Nat} {x y : Pt} (hi : qs[i]? = some x) (hj : qs[j]? = some y) (hij : i ≤ j) : x.lo ≤ y.lo := by
  by_cases e : i = j
  · subst e
    rw [hi] at hj
    cases hj
    exact Int.le_refl _
  · have h1 := up_at h hi hj (by omega)
    have h2 := up_each h x (List.mem_of_getElem? hi)
    omega
theorem ok_count (F : Fun K "count_begun" "count_begun" sCount f fd) (ml : mg "len" = none) : FnOk P w K mg base CX0 1 f fd ["line", "day"] spCount := by
  refine F.ok scCount (fun vs H Q E h => ?_) (fun cdv A outer s H vs Q E hr h => ?_)
  · obtain ⟨T, d, cs, qs, rfl, _⟩ := h
    rfl
  obtain ⟨T, d, cs, qs, rfl, hT, hP, up, hl, q⟩ := h
  have len := pts_len hP
  refine ⟨_, pss_cons (ps_set (i := 2) scCount.nd rfl (Or.inl rfl) pe_int)
    (pss_cons (ps_set (i := 3) scCount.nd rfl (Or.inl rfl) (pe_callB call_len_seq (by rfl) ml PySem.boot_len (pa_cons (pv 0) pa_nil)))
    (pss_cons (ps_while PassesOwn.never (pt_cmpR op_lt (pv 2) (pv 3) (nomark _))
      (pss_cons (ps_set (i := 4) scCount.nd rfl (Or.inl rfl) (pe_op op_fdiv (pe_op op_add (pv 2) (pv 3)) pe_int))
      (pss_one (ps_if (pt_cmpR op_le (pe_ix ix_tup (pe_ix ix_tup (pv 0) (pv 4) (fun _ _ => rfl)) pe_int (fun _ _ => rfl)) (pv 1) (nomark _))
        (pss_one (ps_set (i := 2) scCount.nd rfl (Or.inl rfl) (pe_op op_add (pv 4) pe_int)))
        (pss_one (ps_set (i := 3) scCount.nd rfl (Or.inl rfl) (pv 4)))))))
    (pss_one (ps_ret (pv 2))))), ?_⟩
  refine ⟨_, rfl, T, _, rfl, .inr (SqT.of hT), ?_⟩
  refine while_by (fun σ' H1 => ∃ (l m : Nat) (v4 : Option V), σ' = [some (.ref T), some (.int d), some (.int (l : Int)), some (.int (m : Int)), v4] ∧ H1 = H ∧ l ≤ m ∧ m ≤ qs.length ∧ (∀ i x, i < l → qs[i]? = some x → x.lo ≤ d) ∧ ∀ i x, m ≤ i → qs[i]? = some x → d < x.lo)
    (fun σ' _ => match σ' with | [_, _, some (.int l), some (.int m), _] => (m - l).toNat | _ => 0) ⟨0, qs.length, none, by rw [← len]; rfl, rfl, Nat.zero_le _, Nat.le_refl _, fun i x h => absurd h (by omega), fun i x h hx => absurd (List.getElem?_eq_some_iff.mp hx).1 (by omega)⟩ ?_ ?_
  · rintro σ' H1 ⟨l, m, v4, rfl, rfl, hlm, hmn, hlo, hhi⟩
    refine ⟨_, rfl, _, rfl, _, _, rfl, rfl, _, rfl, ?_⟩
    by_cases c : (l : Int) < (m : Int)
    · refine tt2 (decide_eq_true c) ?_
      have hmid : ((l : Int) + (m : Int)) / 2 = (((l + m) / 2 : Nat) : Int) := by omega
      have l2 : (l + m) / 2 < qs.length := by omega
      obtain ⟨b, hb⟩ : ∃ b, cs[(l + m) / 2]? = some b := ⟨cs[(l + m) / 2], List.getElem?_eq_getElem (by omega)⟩
      obtain ⟨p, hp, ok⟩ := pts_at hP hb
      obtain ⟨a, rfl, ha⟩ := ok.at_
      refine ⟨_, rfl, _, rfl, _, _, rfl, rfl, _, _, rfl, rfl, ⟨by decide, by decide⟩, ?_⟩
      have hat : atI cs (((l : Int) + (m : Int)) / 2) = some (.ref a) := by
        rw [hmid]
        exact atI_nat hb
      refine ⟨_, rfl, _, rfl, T, _, _, _, rfl, rfl, SqT.of hT, hat, a, _, _, _, rfl, rfl, SqT.of ha, rfl, _, rfl, _, _, rfl, rfl, _, rfl, ite2 (fun c2 => ?_) (fun c2 => ?_)⟩
      · have c2' : p.lo ≤ d := of_decide_eq_true c2
        have e1 : V.int (((l : Int) + (m : Int)) / 2 + 1) = V.int (((l + m) / 2 + 1 : Nat) : Int) := congrArg V.int (by omega)
        refine ⟨_, rfl, _, _, rfl, rfl, ⟨(l + m) / 2 + 1, m, some (.int (((l : Int) + (m : Int)) / 2)), (by rw [← e1]; rfl), rfl, by omega, hmn, fun i x hi hx => ?_, hhi⟩, ?_⟩
        · have := lo_mono up hx hp (by omega)
          omega
        · show ((m : Int) - (((l : Int) + (m : Int)) / 2 + 1)).toNat < ((m : Int) - (l : Int)).toNat
          omega
      · have c2' : ¬ p.lo ≤ d := fun z => c2 (decide_eq_true z)
        refine ⟨_, rfl, ⟨l, (l + m) / 2, some (.int (((l : Int) + (m : Int)) / 2)), (by rw [← hmid]; rfl), rfl, by omega, by omega, hlo, fun i x hi hx => ?_⟩, ?_⟩
        · have := lo_mono up hp hx hi
          omega
        · show (((l : Int) + (m : Int)) / 2 - (l : Int)).toNat < ((m : Int) - (l : Int)).toNat
          omega
    · refine ff2 (decide_eq_false c) ?_
      refine ⟨_, rfl, q l (by omega) fun i x hx => ⟨fun h => hlo i x h hx, fun h => ?_⟩⟩
      by_cases z : i < l
      · exact z
      · have := hhi i x (by omega) hx
        omega
  · intro σ' H1 Q1 Q2 hQ h
    obtain ⟨v, e1, u, e2, i, j, h1, h2, k, e3, h3⟩ := h
    exact ⟨v, e1, u, e2, i, j, h1, h2, k, e3, hQ _ _ h3⟩
theorem scFound : FnScope ["line", "day", "begun", "low", "high", "what"] ["line", "day"] (defScope sFound) := ⟨rfl, rfl, rfl, by decide +kernel, rfl, by decide +kernel, by decide +kernel⟩
theorem ok_found (F : Fun K "found" "found" sFound f fd) (GC : FnOk P w K mg base CX0 1 fC fdC ["line", "day"] spCount) (bC : Binds K fdC ["line", "day"] []) (kC : PySem.W.keepIn K (.ref fC) = true) (mC : mg "count_begun" = some (.ref fC))
    (GI : FnOk P w K mg base CX0 1 fI fdI ["low", "high", "day"] spIn) (bI : Binds K fdI ["low", "high", "day"] []) (kI : PySem.W.keepIn K (.ref fI) = true) (mI : mg "in_span" = some (.ref fI)) : FnOk P w K mg base CX0 2 f fd ["line", "day"] spFound := by
  refine F.ok scFound (fun vs H Q E h => ?_) (fun cdv A outer s H vs Q E hr h => ?_)
  · obtain ⟨T, d, cs, qs, rfl, _⟩ := h
    rfl
  obtain ⟨T, d, cs, qs, rfl, hT, hP, up, hl, hd, q⟩ := h
  have len := pts_len hP
  refine ⟨_, pss_cons (ps_set (i := 2) scFound.nd rfl (Or.inl rfl) (pe_call GC hr (by rfl) mC kC bC .nil pass0 (pa_cons (pv 0) (pa_cons (pv 1) pa_nil))))
    (pss_cons (ps_if (pt_cmpR op_eq (pv 2) pe_int (nomark _)) (pss_one (ps_ret pe_non)) pss_nil)
    (pss_cons (ps_asg (pe_ix ix_tup (pv 0) (pe_op op_sub (pv 2) pe_int) (fun _ _ => rfl)) (pg_tup (by rfl) (pgs_cons (pg_name (i := 3) scFound.nd rfl (.inl rfl)) (pgs_cons (pg_name (i := 4) scFound.nd rfl (.inl rfl)) (pgs_cons (pg_name (i := 5) scFound.nd rfl (.inl rfl)) pgs_nil)))))
    (pss_one (ps_ret (pe_ifExp (pt_val (pe_call GI hr (by rfl) mI kI bI .nil pass0 (pa_cons (pv 3) (pa_cons (pv 4) (pa_cons (pv 1) pa_nil))))) (pv 5) pe_non))))), ?_⟩
  refine ⟨_, rfl, _, rfl, T, d, cs, qs, rfl, hT, hP, up, hl, fun k hk hsplit => ?_⟩
  have none_ : (∀ x ∈ qs, cov x d = false) → Q .non H := fun h => q .non .none (.inl .non) (by rw [text_none h]; rfl) fun _ => rfl
  refine ⟨_, rfl, rfl, _, rfl, ite2 (fun c => ?_) (fun c => ?_)⟩
  · have k0 : k = 0 := by
      have := V.int.inj (of_decide_eq_true c)
      omega
    subst k0
    refine none_ fun x hx => cov_false.mpr fun z => ?_
    obtain ⟨i, hi⟩ := List.getElem?_of_mem hx
    have := (hsplit i x hi).mpr z.1
    omega
  · have k1 : 0 < k := by
      by_cases h : k = 0
      · subst h
        exact absurd (decide_eq_true rfl) c
      · omega
    obtain ⟨b, hb⟩ : ∃ b, cs[k - 1]? = some b := ⟨cs[k - 1], List.getElem?_eq_getElem (by omega)⟩
    obtain ⟨p, hp, ok⟩ := pts_at hP hb
    obtain ⟨a, rfl, ha⟩ := ok.at_
    obtain ⟨x, hx, hrx⟩ := ok.what
    have hkk : (k : Int) - 1 = ((k - 1 : Nat) : Int) := by omega
    have plo : p.lo ≤ d := (hsplit (k - 1) p hp).mp (by omega)
    refine ⟨_, rfl, _, rfl, _, _, rfl, rfl, T, _, _, .ref a, rfl, rfl, SqT.of hT, ?_, a, _, rfl, SqT.of ha, rfl, _, _, rfl, _, _, rfl, _, _, rfl, rfl, ?_⟩
    · show atI cs ((k : Int) - 1) = some (.ref a)
      rw [hkk]
      exact atI_nat hb
    refine ⟨_, rfl, _, rfl, _, rfl, p.lo, p.e, d, rfl, hd, _, rfl, ?_⟩
    by_cases c2 : d < p.e
    · refine tt2 (by rw [decide_eq_true plo, decide_eq_true c2]; rfl) ⟨_, rfl, q p.v x hx ?_ fun z => ?_⟩
      · rw [text_of up (List.mem_of_getElem? hp) (cov_true.mpr ⟨plo, c2⟩), hrx]
      · rw [z] at hb
        simp at hb
    · refine ff2 (by rw [decide_eq_false c2, Bool.and_false]) (none_ fun y hy => cov_false.mpr fun z => ?_)
      obtain ⟨i, hi⟩ := List.getElem?_of_mem hy
      have h1 := (hsplit i y hi).mpr z.1
      by_cases h2 : i = k - 1
      · subst h2
        rw [hp] at hi
        cases hi
        exact c2 z.2
      · have := up_at up hi hp (by omega)
        omega
end
end Q20

namespace Q20
open PySem L2 L2.Gd L2.SetL Ln
abbrev sRows : Stmt := top 18
abbrev kwR : List (Str × V) := [("known", .non)]
abbrev psR : List Str := ["deeds", "table", "day", "known"]
def allS (dk : List (Int × List Stp)) : List Stp := dk.flatMap (·.2)
def hitS (y : Str) (day : Int) (s : Stp) : Bool := decide (s.nm = y) && covS day s
def lastOf (y : Str) (day : Int) (ss : List Stp) (z : Str) : Option Stp := ((ss.filter (hitS y day)).filter fun s => decide (s.ky = z)).getLast?
theorem last_snoc {y : Str} {day : Int} {ss : List Stp} {s : Stp} (z : Str) : lastOf y day (ss ++ [s]) z = if hitS y day s = true ∧ s.ky = z then some s else lastOf y day ss z := by
  unfold lastOf
  rw [List.filter_append, List.filter_append]
  by_cases c1 : hitS y day s = true
  · by_cases c2 : s.ky = z
    · rw [if_pos ⟨c1, c2⟩, List.filter_cons_of_pos c1, List.filter_nil, List.filter_cons_of_pos (by exact decide_eq_true c2), List.filter_nil, List.getLast?_append]
      rfl
    · rw [if_neg (fun h => c2 h.2), List.filter_cons_of_pos c1, List.filter_nil, List.filter_cons_of_neg (by rw [decide_eq_false c2]; decide), List.filter_nil, List.append_nil]
  · rw [if_neg (fun h => c1 h.1), List.filter_cons_of_neg c1, List.filter_nil, List.filter_nil, List.append_nil]
/-- the dict of the steps so far -/
structure Held (y : Str) (day : Int) (kz : List Str) (kvs : List (Key × V)) (ss : List Stp) : Prop where
  keys : ∃ ks : List Str, kvs.map (·.1) = ks.map Sum.inr ∧ ks.Nodup ∧ (∀ k ∈ ks, k ∈ kz) ∧ ∀ z, z ∈ ks ↔ (lastOf y day ss z).isSome = true
  val : ∀ z, valV kvs (.inr z) = (lastOf y day ss z).map (·.wv)
theorem val_none1 {kvs : List (Key × V)} {k : Key} (h : k ∉ kvs.map (·.1)) : valV kvs k = none := by
  induction kvs with
  | nil => rfl
  | cons p r ih =>
    rw [List.map_cons, List.mem_cons, not_or] at h
    rw [valV_neg (fun e => h.1 e.symm), ih h.2]
theorem put_old1 {kvs : List (Key × V)} {k : Key} {v : V} (h : k ∈ kvs.map (·.1)) : (putK kvs k v).map (·.1) = kvs.map (·.1) := by
  obtain ⟨p, hp, e⟩ := List.mem_map.mp h
  unfold putK
  rw [if_pos (List.any_eq_true.mpr ⟨p, hp, decide_eq_true e⟩), List.map_map]
  refine List.map_congr_left fun x _ => ?_
  show (if x.1 = k then (x.1, v) else x).1 = x.1
  split <;> rfl
theorem put_new1 {kvs : List (Key × V)} {k : Key} {v : V} (h : k ∉ kvs.map (·.1)) : (putK kvs k v).map (·.1) = kvs.map (·.1) ++ [k] := by
  rw [putK_new v (val_none1 h), List.map_append]
  rfl
theorem Held.start (y : Str) (day : Int) (kz : List Str) : Held y day kz [] [] := ⟨⟨[], rfl, .nil, fun k h => (nomatch h), fun z => ⟨fun h => (nomatch h), fun h => (nomatch h)⟩⟩, fun z => rfl⟩
theorem Held.skip {y : Str} {day : Int} {kz : List Str} {kvs : List (Key × V)} {ss : List Stp} {s : Stp} (h : Held y day kz kvs ss) (c : hitS y day s = false) : Held y day kz kvs (ss ++ [s]) := by
  have e : ∀ z, lastOf y day (ss ++ [s]) z = lastOf y day ss z := fun z => by rw [last_snoc, if_neg (fun q => by rw [c] at q; cases q.1)]
  obtain ⟨ks, k1, k2, k3, k4⟩ := h.keys
  exact ⟨⟨ks, k1, k2, k3, fun z => by rw [e]; exact k4 z⟩, fun z => by rw [e]; exact h.val z⟩
theorem Held.put {y : Str} {day : Int} {kz : List Str} {kvs : List (Key × V)} {ss : List Stp} {s : Stp} (h : Held y day kz kvs ss) (c : hitS y day s = true) (hk : s.ky ∈ kz) : Held y day kz (putK kvs (.inr s.ky) s.wv) (ss ++ [s]) := by
  obtain ⟨ks, k1, k2, k3, k4⟩ := h.keys
  have mem : ∀ z, z ∈ ks ↔ (Sum.inr z : Key) ∈ kvs.map (·.1) := fun z => by
    rw [k1, List.mem_map]
    exact ⟨fun q => ⟨z, q, rfl⟩, fun ⟨x, q, e⟩ => by cases e; exact q⟩
  refine ⟨?_, fun z => ?_⟩
  · by_cases i : s.ky ∈ ks
    · refine ⟨ks, (put_old1 ((mem _).mp i)).trans k1, k2, k3, fun z => ?_⟩
      rw [last_snoc]
      by_cases e : s.ky = z
      · rw [if_pos ⟨c, e⟩]
        exact ⟨fun _ => rfl, fun _ => e ▸ i⟩
      · rw [if_neg (fun q => e q.2)]
        exact k4 z
    · refine ⟨ks ++ [s.ky], ?_, ?_, fun k q => ?_, fun z => ?_⟩
      · rw [put_new1 (fun q => i ((mem _).mpr q)), k1, List.map_append]
        rfl
      · refine List.nodup_append.mpr ⟨k2, List.pairwise_singleton .., fun a ha b hb e => ?_⟩
        rw [List.mem_singleton.mp hb] at e
        exact i (e ▸ ha)
      · rcases List.mem_append.mp q with q | q
        · exact k3 k q
        · rw [List.mem_singleton.mp q]
          exact hk
      · rw [last_snoc, List.mem_append, List.mem_singleton]
        by_cases e : s.ky = z
        · rw [if_pos ⟨c, e⟩]
          exact ⟨fun _ => rfl, fun _ => .inr e.symm⟩
        · rw [if_neg (fun q => e q.2), ← k4 z]
          exact ⟨fun q => q.elim id (fun w => absurd w.symm e), .inl⟩
  · rw [valV_put, last_snoc]
    by_cases e : s.ky = z
    · rw [if_pos (by rw [e]), if_pos ⟨c, e⟩]
      rfl
    · rw [if_neg (fun q => e (Sum.inr.inj q).symm), if_neg (fun q => e q.2)]
      exact h.val z
theorem nodup_len : ∀ {a b : List Str}, a.Nodup → (∀ x ∈ a, x ∈ b) → a.length ≤ b.length
  | [], _, _, _ => Nat.zero_le _
  | x :: r, b, n, h => by
    rw [List.nodup_cons] at n
    have hx := h x (List.mem_cons_self ..)
    have := nodup_len (b := b.erase x) n.2 fun y hy => (List.mem_erase_of_ne (fun e : y = x => n.1 (e ▸ hy))).mpr (h y (List.mem_cons_of_mem _ hy))
    rw [List.length_erase_of_mem hx] at this
    have := List.length_pos_of_mem hx
    rw [List.length_cons]
    omega
/-- what stands on the day: key by key -/
def outR (y : Str) (day : Int) (ss : List Stp) (z : Str) : Option (Str × Stp) := match lastOf y day ss z with
  | some s => if s.wv = .non then none else some (z, s)
  | none => none
def ROk (H : Hp) (v : V) (x : Str × Stp) : Prop := (∃ b, v = .ref b ∧ H b = some (.tup [.str x.1, x.2.wv])) ∧ WhatOk H x.2.wv x.2.wd
theorem ROk.keep {H H' : Hp} {v : V} {x : Str × Stp} (h : ROk H v x) (k : Keep H H') : ROk H' v x := by
  obtain ⟨⟨b, e1, e2⟩, w⟩ := h
  exact ⟨⟨b, e1, k _ _ e2⟩, w.keep k⟩
def spRows : Sp := fun vs H Q _ => ∃ (A : Addr) (un : Option Int) (y : Str) (day : Int) (us : List V) (ds : List (Int × List Stp)) (kz : List Str), vs = [.ref A, .str y, .int day, untilV un] ∧ H A = some (.tup us) ∧ Paired (DeedOk H) us ds ∧ ds.length ≤ 60 ∧ day ≤ 10 ^ 12 ∧ kz.length ≤ 9 ∧ (∀ d ∈ ds, ∀ s ∈ d.2, s.ky ∈ kz) ∧
  ∀ (T : Addr) (ob : Obj) (ws : List V) (zs : List Str) (H' : Hp), H' T = some (.frz ob (.tup ws)) → ob.dict = none → Paired (ROk H') ws (zs.filterMap (outR y day (allS (ds.filter fun d => known un d.1)))) → PyProof.Rows.sortedS zs = true → zs.Nodup → zs.length ≤ 9 → (∀ z, z ∈ zs ↔ (lastOf y day (allS (ds.filter fun d => known un d.1)) z).isSome = true) → Same H H' → Q (.ref T) H'
section
variable {P : Program} {w : World} {K : PySem.W.Frag} {mg : Str → Option Value} {base : Heap}
variable {f fD fC fW : Addr} {fd fdD fdC fdW : FuncData}
abbrev rowsN : List Str := ["deeds", "table", "day", "known", "held", "told", "steps", "step", "key"]
theorem scRows : FnScope rowsN psR (defScope sRows) := ⟨rfl, rfl, rfl, by decide +kernel, rfl, by decide +kernel, by decide +kernel⟩
theorem kwr_k (F : FunD K "rows_at" "rows_at" (defArgs sRows) (defBody sRows) (defScope sRows) [] kwR f fd) : KBn K fd psR 3 ["known"] (fun us ws => us ++ ws) (fun vs zs => vs ++ zs) := by
  obtain ⟨mv, h⟩ := FunD.kbinds0 (ps := psR) F 3 ["known"] [] (fun us _ ws => us ++ ws) (by simp) (fun q hq => (nomatch hq)) (fun r1 _ r3 => r1.append r3) (fun D doc pm an cdv ct us mv ws h1 h2 h3 => match us, mv, ws, h1, h2, h3 with | [_, _, _], [], [_], _, _, _ => rfl)
  exact h
theorem kwr_0 (F : FunD K "rows_at" "rows_at" (defArgs sRows) (defBody sRows) (defScope sRows) [] kwR f fd) : ∃ ds, Vals [.non] ds ∧ Binds K fd psR ds :=
  F.binds0 (ps := psR) 3 (by simp) rfl (fun D doc pm an cdv ct us ks h1 h2 => match us, ks, h1, h2 with | [_, _, _], [_], _, _ => ⟨_, _, _, _, _, _, rfl, rfl, rfl⟩)
theorem ok_rows {kws : List (Str × V)} (F : FunD K "rows_at" "rows_at" (defArgs sRows) (defBody sRows) (defScope sRows) [] kws f fd)
    (GD : FnOk P w K mg base CX0 1 fD fdD ["deeds", "known"] spKDeeds) (bD : Binds K fdD ["deeds", "known"] []) (kD : PySem.W.keepIn K (.ref fD) = true) (mD : mg "known_deeds" = some (.ref fD))
    (GC : FnOk P w K mg base CX0 2 fC fdC ["step", "day"] spCov) (bC : Binds K fdC ["step", "day"] []) (kC : PySem.W.keepIn K (.ref fC) = true) (mC : mg "covers" = some (.ref fC))
    (GW : FnOk P w K mg base CX0 1 fW fdW ["step"] spWorths) (bW : Binds K fdW ["step"] []) (kW : PySem.W.keepIn K (.ref fW) = true) (mW : mg "worths_of" = some (.ref fW))
    (mo : mg "sorted" = none) (mt : mg "tuple" = none) : FnOk P w K mg base CX0 3 f fd psR spRows := by
  refine F.ok scRows (fun vs H Q E h => ?_) (fun cdv A0 outer s H vs Q E hr h => ?_)
  · obtain ⟨A, un, y, day, us, ds, kz, rfl, _⟩ := h
    rfl
  have hr1 : Room 1 _ := hr.mono (by decide)
  have hr2 : Room 2 _ := hr.mono (by decide)
  have hu := hr.units
  have hu1 : _ + 1 < cLine := Nat.lt_of_le_of_lt (Nat.add_le_add_left (by decide : 1 ≤ 64) _) hu
  obtain ⟨A, un, y, day, us, ds, kz, rfl, hA, hD, lD, hday, lkz, inK, qq⟩ := h
  refine ⟨_, PSs.nox (pss_cons (ps_set (i := 4) scRows.nd rfl (Or.inr rfl) pe_dnewK)
    (pss_cons (ps_for PassesOwn.never rfl (pi_list (pe_call GD hr1 (by rfl) mD kD bD .nil pass0 (pa_cons (pv 0) (pa_cons (pv 3) pa_nil)))) (pg_tup rfl (pgs_cons (pg_name (i := 5) scRows.nd rfl (.inl rfl)) (pgs_cons (pg_name (i := 6) scRows.nd rfl (.inl rfl)) pgs_nil)))
      (pss_one (ps_for PassesOwn.never rfl (pi_tup (pv 6)) (pg_name (i := 7) scRows.nd rfl (.inl rfl))
        (pss_one (ps_if (PW.pt (pw_and (pt_cmpR op_eq (pe_ix ix_tup (pv 7) pe_int (fun _ _ => rfl)) (pv 1) (nomark _)) (pw_and1 (pt_val (pe_call GC hr2 (by rfl) mC kC bC .nil pass0 (pa_cons (pv 7) (pa_cons (pv 2) pa_nil)))))))
          (pss_one (ps_dput hu1 (pv 4) (pe_ix ix_tup (pv 7) pe_int (fun _ _ => rfl)) (pe_call GW hr1 (by rfl) mW kW bW .nil pass0 (pa_cons (pv 7) pa_nil)) rfl)) pss_nil)))))
    (pss_one (ps_ret (pe_callTy Dc.call_tupleF (by rfl) mt (by decide +kernel) (pa_cons (pe_lc (own := [("key", 8)]) (g := gName 8) (by rfl) scRows.nd (pi_list (pe_callB (call_sortedD rfl) (by rfl) mo (by decide +kernel) (pa_cons (pv 4) pa_nil))) (blkOk_by (own := [("key", 8)]) (N := rowsN) (sc := defScope sRows) (by decide +kernel))
      (fun _ _ _ _ _ => pg_name (i := 8) scRows.nd rfl (Or.inl rfl)) (fun _ _ _ _ _ => pts_one (pt_cmp (pc_notN (pe_dget hu1 (pv 4) (pv 8) (fun _ _ => rfl))))) (fun _ _ _ _ _ => pe_tup (pa_cons (pv 8) (pa_cons (pe_dget hu1 (pv 4) (pv 8) (fun _ _ => rfl)) pa_nil)))) pa_nil)))))), ?_⟩
  intro D nD
  have gD : Same H _ := same_new nD (.dK [])
  refine ⟨_, rfl, _, rfl, A, un, us, ds, rfl, gD _ _ hA, paired_mono (fun _ _ c => c.keep (Keep.of gD)) hD, lD, fun L xs H1 nL hL hX s1 => ?_⟩
  obtain ⟨dk, edk⟩ : ∃ dk, dk = ds.filter fun d => known un d.1 := ⟨_, rfl⟩
  rw [← edk] at hX qq
  have lX : xs.length = dk.length := Paired.length hX
  have inK' : ∀ d ∈ dk, ∀ s ∈ d.2, s.ky ∈ kz := fun d hd => inK d (by rw [edk] at hd; exact (List.mem_filter.mp hd).1)
  have hD1 := s1 _ _ (upd_same : (upd H D (.dK [])) D = some (.dK []))
  have sH1 := gD.trans s1
  refine ⟨L, rfl, ⟨_, SqL.of hL⟩, for_list (K := K) (a := L) (xs := xs) (fun i σ' H2 => ∃ (v5 v6 v7 : Option V) (kvs : List (Key × V)), σ' = [some (.ref A), some (.str y), some (.int day), some (untilV un), some (.ref D), v5, v6, v7, none] ∧ H2 D = some (.dK kvs) ∧ Held y day kz kvs (allS (dk.take i)) ∧ Same H H2 ∧ Keep H1 H2 ∧ H2 L = some (.lst xs))
    ⟨none, none, none, [], rfl, hD1, Held.start y day kz, sH1, Keep.refl _, hL⟩ (fun i σ' H2 _ ⟨_, _, _, _, _, _, _, _, _, l⟩ => SqL.of l) ?_ ?_⟩
  · rintro i x σ' H2 hi ⟨v5, v6, v7, kvs, rfl, hK, held, s2, k2, l2⟩
    obtain ⟨d, hd, D1⟩ := paired_at hX hi
    obtain ⟨t, S, ss, rfl, ht, hS, pS, _, _, l4⟩ := D1.keep k2
    have dm := List.mem_of_getElem? hd
    refine ⟨t, _, rfl, SqT.of ht, rfl, _, _, rfl, _, _, rfl, rfl, _, rfl, S, rfl, ⟨_, SqT.of hS⟩, ?_⟩
    refine for_tup (K := K) (a := S) (xs := ss) (fun j σ' H3 => ∃ (v7 : Option V) (kvs : List (Key × V)), σ' = [some (.ref A), some (.str y), some (.int day), some (untilV un), some (.ref D), some (.int d.1), some (.ref S), v7, none] ∧ H3 D = some (.dK kvs) ∧ Held y day kz kvs (allS (dk.take i) ++ d.2.take j) ∧ Same H H3 ∧ Keep H2 H3 ∧ H3 L = some (.lst xs))
      ⟨v7, kvs, rfl, hK, by rw [List.take_zero, List.append_nil]; exact held, s2, Keep.refl _, l2⟩ (fun j σ' H3 _ ⟨_, _, _, _, _, _, k, _⟩ => SqT.of (k _ _ hS)) ?_ ?_
    · rintro j v σ' H3 hj ⟨w7, kvs, rfl, hK, held, s3, k3, l3⟩
      obtain ⟨st, hst, S1⟩ := paired_at pS hj
      have S2 := S1.keep k3
      have S2' := S2
      obtain ⟨t2, hdr, rest, rfl, ht2⟩ := S2.names
      have tk : allS (dk.take i) ++ d.2.take (j + 1) = (allS (dk.take i) ++ d.2.take j) ++ [st] := by
        rw [List.take_add_one, hst, List.append_assoc]
        rfl
      refine ⟨_, rfl, t2, _, _, .str st.nm, rfl, rfl, SqT.of ht2, atI_nat (j := 1) rfl, _, rfl, rfl, _, rfl, ?_⟩
      by_cases c1 : st.nm = y
      · refine tt2 (decide_eq_true (congrArg V.str c1)) ⟨_, rfl, _, rfl, .ref t2, st, day, rfl, S2', hday, fun H4 s4 => ⟨_, rfl, ?_⟩⟩
        by_cases c2 : covS day st = true
        · have hit : hitS y day st = true := by unfold hitS; rw [decide_eq_true c1, c2]; rfl
          refine tt2 c2 ⟨_, rfl, .ref t2, st, rfl, S2'.keep (Keep.of s4), _, rfl, _, rfl, t2, _, _, .str st.ky, rfl, rfl, SqT.of (s4 _ _ ht2), atI_nat (j := 2) rfl, D, _, rfl, DPut.k (k := .inr st.ky) (s4 _ _ hK) ?_, ?_⟩
          · obtain ⟨ks, e1, e2, e3, _⟩ := held.keys
            have l1 := congrArg List.length e1
            rw [List.length_map, List.length_map] at l1
            have l2 := nodup_len e2 e3
            rw [sizeLine_eq]
            omega
          · have hK4 := s4 _ _ hK
            refine ⟨_, _, rfl, upd_same, ?_, fun b o e => ?_, fun b vs e => ?_, ?_⟩
            · rw [tk]
              exact held.put hit (inK' d dm st (List.mem_of_getElem? hst))
            · rw [upd_ne (ne_of_none e nD)]
              exact s4 _ _ (s3 _ _ e)
            · have e' := s4 _ _ (k3 _ _ e)
              rw [upd_ne (ne_of e' hK4 (by intro z; cases z))]
              exact e'
            · have e' := s4 _ _ l3
              rw [upd_ne (ne_of e' hK4 (by intro z; cases z))]
              exact e'
        · refine ff2 (Bool.eq_false_iff.mpr c2) ⟨_, _, rfl, s4 _ _ hK, ?_, s3.trans s4, k3.trans (Keep.of s4), s4 _ _ l3⟩
          rw [tk]
          exact held.skip (by unfold hitS; rw [Bool.eq_false_iff.mpr c2, Bool.and_false])
      · refine ff2 (decide_eq_false fun e => c1 (V.str.inj e)) ⟨_, _, rfl, hK, ?_, s3, k3, l3⟩
        rw [tk]
        exact held.skip (by unfold hitS; rw [decide_eq_false c1, Bool.false_and])
    · rintro σ' H3 ⟨w7, kvs, rfl, hK, held, s3, k3, l3⟩
      refine ⟨_, _, _, kvs, rfl, hK, ?_, s3, k2.trans k3, l3⟩
      rw [Paired.length pS, List.take_length] at held
      unfold allS at held ⊢
      rw [List.take_add_one, hd, List.flatMap_append]
      simpa using held
  · rintro σ' H2 ⟨v5, v6, v7, kvs, rfl, hK, held, s2, k2, l2⟩
    rw [lX, List.take_length] at held
    obtain ⟨ks, e1, e2, e3, e4⟩ := held.keys
    have lk := nodup_len e2 e3
    refine ⟨_, rfl, D, kvs, ks, rfl, .inl hK, e1, by omega, fun zs LZ pz sz nLZ => ⟨LZ, rfl, ⟨_, SqL.of upd_same⟩, fun B nB => ?_⟩⟩
    have gZ : Same H2 _ := same_new nLZ (.lst (zs.map V.str))
    have lz : zs.length = ks.length := pz.length_eq
    obtain ⟨H3, e3'⟩ : ∃ H3, H3 = upd H2 LZ (.lst (zs.map V.str)) := ⟨_, rfl⟩
    have hLZ : H3 LZ = some (.lst (zs.map V.str)) := e3' ▸ upd_same
    rw [← e3'] at gZ nB ⊢
    have hX2 : Paired (DeedOk H3) xs dk := paired_mono (fun _ _ c => (c.keep k2).keep (Keep.of gZ)) hX
    refine lc_list (K := K) (a := LZ) (xs := zs.map V.str) (fun j H4 => ∃ ws : List V, H4 B = some (.lst ws) ∧ ws.length ≤ j ∧ Paired (ROk H4) ws ((zs.take j).filterMap (outR y day (allS dk))) ∧ Same H3 H4) ⟨[], upd_same, Nat.le_refl _, .nil, same_new nB _⟩ (fun j H4 _ ⟨_, _, _, _, s4⟩ => SqL.of (s4 _ _ hLZ)) ?_ ?_
    · rintro j x H4 hj ⟨ws, w1, w2, w3, s4⟩
      rw [List.getElem?_map] at hj
      obtain ⟨z, hz, rfl⟩ := Option.map_eq_some_iff.mp hj
      have jl : j < 9 := by
        have := (List.getElem?_eq_some_iff.mp hz).1
        omega
      have zk : z ∈ ks := pz.mem_iff.mp (List.mem_of_getElem? hz)
      obtain ⟨st, hst⟩ := Option.isSome_iff_exists.mp ((e4 z).mp zk)
      have hv := held.val z
      rw [hst] at hv
      have hv' : valV kvs (.inr z) = some st.wv := hv
      have hK4 := s4 _ _ (gZ _ _ hK)
      have get : DGet H4 D (.str z) (some st.wv) := hv' ▸ DGet.k (k := .inr z) hK4
      have tk : (zs.take (j + 1)).filterMap (outR y day (allS dk)) = (zs.take j).filterMap (outR y day (allS dk)) ++ (outR y day (allS dk) z).toList := by
        rw [List.take_add_one, hz, List.filterMap_append]
        congr 1
      refine ⟨rfl, _, rfl, _, rfl, D, st.wv, rfl, get, _, rfl, ?_⟩
      by_cases c : st.wv = .non
      · have eo : outR y day (allS dk) z = none := by unfold outR; rw [hst]; exact if_pos c
        refine ff2 (by rw [c]; rfl) ⟨ws, w1, by omega, ?_, s4⟩
        rw [tk, eo]
        simpa using w3
      · have eo : outR y day (allS dk) z = some (z, st) := by unfold outR; rw [hst]; exact if_neg c
        refine tt2 (by rw [decide_eq_false c]; rfl) ⟨_, rfl, _, rfl, _, rfl, D, st.wv, rfl, get, (by rw [sizeLine_eq]; simp), fun r nr => ?_⟩
        have gr : Same H4 _ := same_new nr (.tup [.str z, st.wv])
        have w1' := gr _ _ w1
        have kB : Keep (upd H4 r (.tup [.str z, st.wv])) (upd (upd H4 r (.tup [.str z, st.wv])) B (.lst (ws ++ [.ref r]))) := fun b vs e => by
          rw [upd_ne (ne_of e w1' (by intro z; cases z))]
          exact e
        have kk := (Keep.of gr).trans kB
        have stm : st ∈ allS dk := (List.mem_filter.mp (List.mem_filter.mp (List.mem_of_getLast? hst)).1).1
        obtain ⟨d, hd, hs⟩ := List.mem_flatMap.mp stm
        obtain ⟨_, t, S, ss, _, _, _, pS, _⟩ := paired_mem hX2 d hd
        obtain ⟨_, ok⟩ := paired_mem pS st hs
        refine ⟨ws, w1', small1000 (by omega), ws ++ [.ref r], upd_same, by rw [List.length_append]; show ws.length + 1 ≤ _; omega, ?_, fun b o e => ?_⟩
        · rw [tk, eo]
          exact paired_snoc ⟨⟨r, rfl, kB _ _ upd_same⟩, ((ok.what.keep (Keep.of s4)).keep kk)⟩ (paired_mono (fun _ _ c => c.keep kk) w3)
        · rw [upd_ne (ne_of_none e nB)]
          exact gr _ _ (s4 _ _ e)
    · rintro H4 ⟨ws, w1, w2, w3, s4⟩
      rw [List.length_map, List.take_length] at w3
      refine ⟨B, ws, rfl, SqL.of w1, fun T ob nT _ od => ?_⟩
      have gT : Same H4 _ := same_new nT (.frz ob (.tup ws))
      exact qq T ob ws zs _ upd_same od (paired_mono (fun _ _ c => c.keep (Keep.of gT)) w3) sz (pz.nodup_iff.mpr e2) (by omega) (fun z => pz.mem_iff.trans (e4 z)) ((s2.trans gZ).trans (s4.trans gT))
end
end Q20

namespace Q20
open PySem L2 L2.Gd L2.SetL Ln Sp2
/-! ### one order for both sides -/
theorem leP_of {y a b : Str} (h : PySem.Spec.ltCps b.cps.toList a.cps.toList = false) : leP (y, a) (y, b) = true := by
  rw [PyProof.Rows.ltCps_eq] at h
  have iy : PyProof.Rows.itemLt (.inr y.cps.toList) (.inr y.cps.toList) = false := PyProof.Rows.itemOrd.irrefl (.inr y.cps.toList)
  have hb : PyProof.Rows.itemLt (.inr b.cps.toList) (.inr a.cps.toList) = false := h
  unfold leP PySem.W.dataLe PySem.W.sortLe
  simp [encP, PySem.W.keyToks, PySem.W.keyToksAll, PyProof.Rows.lexLt, iy, hb]
  exact ⟨rfl, .inr ⟨rfl, .inr (.inr rfl)⟩⟩
theorem rise_le {y : Str} : ∀ {l : List Str} {p : Str}, PyProof.Rows.risingS p l = true → (∀ b ∈ l, leP (y, p) (y, b) = true) ∧ (l.map fun z => (y, z)).Pairwise fun a b => leP a b = true
  | [], _, _ => ⟨fun b hb => (nomatch hb), .nil⟩
  | x :: r, p, h => by
    have h' : (!PySem.Spec.ltCps x.cps.toList p.cps.toList && PyProof.Rows.risingS x r) = true := h
    rw [Bool.and_eq_true, Bool.not_eq_true'] at h'
    obtain ⟨i1, i2⟩ := rise_le (y := y) h'.2
    have px := leP_of (y := y) h'.1
    refine ⟨fun b hb => ?_, ?_⟩
    · rcases List.mem_cons.mp hb with rfl | hb
      · exact px
      · exact leP_total.trans _ _ _ px (i1 b hb)
    · rw [List.map_cons, List.pairwise_cons]
      refine ⟨fun q hq => ?_, i2⟩
      obtain ⟨b, hb, rfl⟩ := List.mem_map.mp hq
      exact i1 b hb
theorem sorted_le {y : Str} : ∀ {l : List Str}, PyProof.Rows.sortedS l = true → (l.map fun z => (y, z)).Pairwise fun a b => leP a b = true
  | [], _ => .nil
  | x :: r, h => by
    obtain ⟨i1, i2⟩ := rise_le (y := y) (show PyProof.Rows.risingS x r = true from h)
    rw [List.map_cons, List.pairwise_cons]
    refine ⟨fun q hq => ?_, i2⟩
    obtain ⟨b, hb, rfl⟩ := List.mem_map.mp hq
    exact i1 b hb
theorem fm_filter {α β : Type} (f : α → Option β) : ∀ l : List α, (l.filter fun a => (f a).isSome).filterMap f = l.filterMap f
  | [] => rfl
  | a :: r => by
    cases e : f a with
    | none => rw [List.filter_cons_of_neg (by rw [e]; intro h; cases h), List.filterMap_cons_none e, fm_filter f r]
    | some b => rw [List.filter_cons_of_pos (by rw [e]; rfl), List.filterMap_cons_some e, List.filterMap_cons_some e, fm_filter f r]
theorem out_last {y : Str} {day : Int} {ss : List Stp} {z : Str} (h : (outR y day ss z).isSome = true) : (lastOf y day ss z).isSome = true := by
  unfold outR at h
  cases e : lastOf y day ss z with
  | none => rw [e] at h; cases h
  | some s => rfl
theorem last_mem2 {y : Str} {day : Int} {ss : List Stp} {z : Str} {s : Stp} (h : lastOf y day ss z = some s) : s ∈ ss ∧ s.nm = y ∧ s.ky = z := by
  obtain ⟨a, b⟩ := List.mem_filter.mp (List.mem_of_getLast? h)
  obtain ⟨c, d⟩ := List.mem_filter.mp a
  unfold hitS at d
  rw [Bool.and_eq_true] at d
  exact ⟨c, of_decide_eq_true d.1, of_decide_eq_true b⟩
end Q20

namespace Q20
open PySem L2 L2.Gd L2.SetL Ln Sp2
/-! ### data and their texts -/
structure N1 (n m : Nat) (D : PyData) (t : Str) : Prop where
  text : D.shown = t
  show_ : D.showable = true
  dict : D.hasDict = false
  deep : D.depth ≤ n
  long : t.length ≤ m
structure Ns (n m : Nat) (Ds : List PyData) (ts : List Str) : Prop where
  text : PyData.shownAll Ds = ts
  show_ : PyData.showableAll Ds = true
  dict : PyData.hasDictAll Ds = false
  deep : PyData.depthAll Ds ≤ n
  long : (ts.map (·.length)).sum ≤ m
theorem Ns.nil (n m : Nat) : Ns n m [] [] := ⟨rfl, rfl, rfl, Nat.zero_le _, Nat.zero_le _⟩
theorem Ns.cons {n a b : Nat} {D : PyData} {t : Str} {Ds : List PyData} {ts : List Str} (h : N1 n a D t) (r : Ns n b Ds ts) : Ns n (a + b) (D :: Ds) (t :: ts) := by
  refine ⟨by rw [PyData.shownAll, h.text, r.text], by simp [PyData.showableAll, h.show_, r.show_], by simp [PyData.hasDictAll, h.dict, r.dict], ?_, ?_⟩
  · have := h.deep
    have := r.deep
    simp only [PyData.depthAll]
    omega
  · have := h.long
    have := r.long
    rw [List.map_cons, List.sum_cons]
    omega
theorem Ns.tup {n b : Nat} {Ds : List PyData} {ts : List Str} (h : Ns n b Ds ts) : N1 (n + 1) (b + 2 * ts.length + 3) (.tuple Ds) (tupleText ts) := by
  refine ⟨?_, by simpa [PyData.showable] using h.show_, by simpa [PyData.hasDict] using h.dict, ?_, ?_⟩
  · show tupleText (PyData.shownAll Ds) = _
    rw [h.text]
  · have := h.deep
    simp only [PyData.depth]
    omega
  · have e := PySem.tupleText_len_le ts
    have := h.long
    omega
theorem N1.le {n n' m m' : Nat} {D : PyData} {t : Str} (h : N1 n m D t) (a : n ≤ n') (b : m ≤ m') : N1 n' m' D t := ⟨h.text, h.show_, h.dict, Nat.le_trans h.deep a, Nat.le_trans h.long b⟩
theorem Ns.le {n n' m m' : Nat} {D : List PyData} {t : List Str} (h : Ns n m D t) (a : n ≤ n') (b : m ≤ m') : Ns n' m' D t := ⟨h.text, h.show_, h.dict, Nat.le_trans h.deep a, Nat.le_trans h.long b⟩
theorem td_n1 {v : V} {d : PyData} (x : TD v d) : N1 1 100 d d.shown := by
  obtain ⟨a1, a2, a3, a4, _⟩ := x.facts
  exact ⟨rfl, a1, a2, by omega, a4⟩
theorem what_n1 {H : Hp} {v : V} {d : PyData} (x : WhatOk H v d) : N1 1 500 d d.shown := by
  obtain ⟨a1, a2, _, _, _⟩ := x.facts
  obtain ⟨l1, l2⟩ := x.long
  exact ⟨rfl, a1, a2, l2, l1⟩
theorem str_n1 {y : Str} (h : Wd y) : N1 1 100 (.str y) (PyData.str y).shown := td_n1 (.str y h.1 h.2.1 h.2.2)
theorem all_text {α : Type} {K : PySem.W.Frag} {H : Hp} {R : V → α → Prop} {f : α → Str} {n m : Nat} : ∀ {bs : List V} {as : List α}, Paired R bs as → (∀ v, ∀ a ∈ as, R v a → ∃ D, Dp K H v D ∧ N1 n m D (f a)) → ∃ Ds, DpAll K H bs Ds ∧ Ns n (m * as.length) Ds (as.map f)
  | _, _, .nil, _ => ⟨[], .nil, Ns.nil _ _⟩
  | _, _, .cons (b := x) h r, hw => by
    obtain ⟨Ds, h1, h2⟩ := all_text r fun v a ha => hw v a (List.mem_cons_of_mem _ ha)
    obtain ⟨D, d1, d2⟩ := hw _ x (List.mem_cons_self ..) h
    refine ⟨D :: Ds, .cons d1 h1, (Ns.cons d2 h2).le (Nat.le_refl _) ?_⟩
    rw [List.length_cons, Nat.mul_succ]
    omega

def rtext (x : Str × Stp) : Str := tupleText [(PyData.str x.1).shown, x.2.wd.shown]
theorem rows_repr {K : PySem.W.Frag} {H : Hp} {T : Addr} {ws : List V} {xs : List (Str × Stp)} (hT : SqT K H T ws) (h : Paired (ROk H) ws xs) (hw : ∀ x ∈ xs, Wd x.1) (lx : xs.length ≤ 1000) : ∃ D, Dp K H (.ref T) D ∧ D.showable = true ∧ D.hasDict = false ∧ D.depth ≤ 60 ∧ D.shown.length ≤ sizeLine ∧ D.shown = tupleText (xs.map rtext) := by
  obtain ⟨Ds, d1, d2⟩ := all_text (K := K) (H := H) (f := rtext) (n := 2) (m := 700) h fun v x hx o => by
    obtain ⟨⟨b, rfl, hb⟩, wo⟩ := o
    exact ⟨.tuple [.str x.1, x.2.wd], .tup (SqT.of hb) (.cons (.str _) (.cons wo.dp .nil)), (Ns.cons (str_n1 (hw x hx)) (Ns.cons (what_n1 wo) (Ns.nil 1 0))).tup.le (by decide) (by simp)⟩
  have t := d2.tup
  refine ⟨_, .tup hT d1, t.show_, t.dict, Nat.le_trans t.deep (by decide), ?_, t.text⟩
  rw [t.text, sizeLine_eq]
  have := t.long
  rw [List.length_map] at this
  omega
end Q20
namespace Q20
open PySem L2 L2.Gd L2.SetL Ln Sp2
/-- the text of what the last one puts -/
def lastT (o : Option (Nat × Nat × Stp)) : Str := (o.map fun x => x.2.2.wd.shown).getD nonR
theorem line_last (xs : List (Nat × Nat × Stp)) (d : Int) : atR (xs.map fun x => stPt x.2.2) d = lastT (lastK xs d) := by
  have e : lastAt (xs.map fun x => stPt x.2.2) d = (lastK xs d).map fun x => stPt x.2.2 := by
    unfold lastAt lastK
    rw [← List.map_reverse, List.find?_map, ← List.head?_filter, List.filter_reverse, List.head?_reverse]
    rfl
  unfold atR lastT
  rw [e]
  cases lastK xs d <;> rfl
theorem kline_last {y z : Str} {ds : List (Int × List Stp)} {day a : Int} (ha : a ≤ 10 ^ 12) : atR (kPts y z ds day) a = lastT (lastK (sel y z (some a) ds) day) := by
  unfold atR
  rw [kPts_last ha]
  unfold lastT lastK
  cases (List.filter (fun x => covS day x.2.2) (sel y z (some a) ds)).getLast? <;> rfl
theorem last_steps {y z : Str} {un : Option Int} {day : Int} {ds : List (Int × List Stp)} : (lastK (sel y z un ds) day).map (·.2.2) = lastOf y day (allS (ds.filter fun d => known un d.1)) z := by
  have e' : (sel y z un ds).map (fun x => x.2.2) = (allS (ds.filter fun d => known un d.1)).filter (mine y z) := by
    unfold allS sel
    rw [sel_steps, List.filter_flatMap]
  unfold lastK lastOf
  rw [← List.getLast?_map, show ((sel y z un ds).filter fun x => covS day x.2.2).map (·.2.2) = ((sel y z un ds).map fun x => x.2.2).filter (covS day) from (by rw [List.filter_map]; rfl), e', List.filter_filter, List.filter_filter]
  congr 1
  refine congrArg (fun p => List.filter p _) (funext fun s => ?_)
  unfold mine hitS
  cases decide (s.nm = y) <;> cases decide (s.ky = z) <;> cases covS day s <;> rfl
theorem sel_at {y z : Str} {un : Option Int} {ds : List (Int × List Stp)} {x : Nat × Nat × Stp} (h : x ∈ sel y z un ds) : ∃ e, ds[x.1]? = some e ∧ e.2[x.2.1]? = some x.2.2 := by
  obtain ⟨⟨d, k⟩, hd, hx⟩ := List.mem_flatMap.mp h
  have hk := zip_at hd
  unfold selD at hx
  split at hx
  · obtain ⟨⟨s, j⟩, hs, rfl⟩ := List.mem_map.mp hx
    exact ⟨d, hk, zip_at (List.mem_filter.mp hs).1⟩
  · cases hx
theorem last_in {xs : List (Nat × Nat × Stp)} {d : Int} {x : Nat × Nat × Stp} (h : lastK xs d = some x) : x ∈ xs := (List.mem_filter.mp (List.mem_of_getLast? h)).1
/-- later deeds aren't known yet -/
theorem known_app {ds more : List (Int × List Stp)} {u : Int} (h : ∀ d ∈ more, u < d.1) : ((ds ++ more).filter fun d => known (some u) d.1) = ds.filter fun d => known (some u) d.1 := by
  have e : (more.filter fun d => known (some u) d.1) = [] := List.filter_eq_nil_iff.mpr fun d hd k => by
    have := of_decide_eq_true k
    have := h d hd
    omega
  rw [List.filter_append, e, List.append_nil]
theorem sel_app {y z : Str} {ds more : List (Int × List Stp)} {u : Int} (p1 : ((ds ++ more).map (·.1)).Pairwise (· ≤ ·)) (p2 : (ds.map (·.1)).Pairwise (· ≤ ·)) (h : ∀ d ∈ more, u < d.1) : sel y z (some u) (ds ++ more) = sel y z (some u) ds := by
  rw [sel_all p1, sel_all p2, known_app h]
/-- three alike in a list -/
theorem three {K : PySem.W.Frag} {H : Hp} {L : Addr} {a b c : V} {x y z : PyData} {r : Str} (hL : H L = some (.lst [a, b, c])) (ha : WhatOk H a x) (hb : WhatOk H b y) (hc : WhatOk H c z) (h1 : x.shown = r) (h2 : y.shown = r) (h3 : z.shown = r) :
    ∃ D, Dp K H (.ref L) D ∧ D.showable = true ∧ D.hasDict = false ∧ D.depth ≤ 60 ∧ D.shown.length ≤ sizeLine ∧ D.shown = listText [r, r, r] := by
  obtain ⟨a1, a2, _⟩ := ha.facts
  obtain ⟨b1, b2, _⟩ := hb.facts
  obtain ⟨c1, c2, _⟩ := hc.facts
  obtain ⟨la, da⟩ := ha.long
  obtain ⟨lb, db⟩ := hb.long
  obtain ⟨lc, dc⟩ := hc.long
  have tx : (PyData.list [x, y, z]).shown = listText [r, r, r] := by
    show listText (PyData.shownAll [x, y, z]) = _
    simp only [PyData.shownAll, h1, h2, h3]
  refine ⟨.list [x, y, z], .lst (SqL.of hL) (.cons ha.dp (.cons hb.dp (.cons hc.dp .nil))), ?_, ?_, ?_, ?_, tx⟩
  · simp [PyData.showable, PyData.showableAll, a1, b1, c1]
  · simp [PyData.hasDict, PyData.hasDictAll, a2, b2, c2]
  · simp only [PyData.depth, PyData.depthAll]
    omega
  · rw [tx, sizeLine_eq]
    have := PySem.listText_len_le [r, r, r]
    rw [h1] at la
    simp only [List.map_cons, List.map_nil, List.sum_cons, List.sum_nil, List.length_cons, List.length_nil] at this
    omega
/-- numbers told, or None -/
def NumOk (H : Hp) (v : V) : Option (Nat × Nat × Stp) → Prop
  | none => v = .non
  | some x => ∃ t, v = .ref t ∧ H t = some (.tup [.int (x.1 : Int), .int (x.2.1 : Int)]) ∧ x.1 ≤ 1000 ∧ x.2.1 ≤ 1000
theorem NumOk.keep {H H' : Hp} {v : V} {o : Option (Nat × Nat × Stp)} (h : NumOk H v o) (k : Keep H H') : NumOk H' v o := by
  cases o with
  | none => exact h
  | some x =>
    obtain ⟨t, a, b, c⟩ := h
    exact ⟨t, a, k _ _ b, c⟩
def numT : Option (Nat × Nat × Stp) → Str
  | none => (PyData.none).shown
  | some x => (PyData.tuple [.int (x.1 : Int), .int (x.2.1 : Int)]).shown
theorem num_repr {K : PySem.W.Frag} {H : Hp} {v : V} {o : Option (Nat × Nat × Stp)} (h : NumOk H v o) : ∃ D, Dp K H v D ∧ D.showable = true ∧ D.hasDict = false ∧ D.depth ≤ 60 ∧ D.shown.length ≤ sizeLine ∧ D.shown = numT o := by
  cases o with
  | none =>
    cases (show v = .non from h)
    exact ⟨.none, .non, rfl, rfl, by decide, by rw [sizeLine_eq]; decide +kernel, rfl⟩
  | some x =>
    obtain ⟨t, rfl, ht, s1, s2⟩ := h
    have w : WhatOk H (.ref t) (.tuple [.int (x.1 : Int), .int (x.2.1 : Int)]) := .inr ⟨t, _, _, rfl, ht, by simp, .cons (.int _ (by omega)) (.cons (.int _ (by omega)) .nil), rfl⟩
    obtain ⟨a1, a2, a3, a4, _⟩ := w.facts
    exact ⟨_, w.dp, a1, a2, a3, a4, rfl⟩
end Q20
namespace Q20
open PySem L2 L2.Gd L2.SetL Ln Sp2
abbrev sCell : Stmt := top 33
abbrev cellN : List Str := ["_law_deeds", "_law_place", "_law_day", "_law_until", "_law_held", "_law_line", "_law_numbers", "_law_due", "_law_told_here", "_law_last_here"]
abbrev cellP : List Str := ["_law_deeds", "_law_place", "_law_day", "_law_until", "_law_held", "_law_line"]
def spCell : Sp := fun vs H Q _ => ∃ (A t B T : Addr) (d u : Int) (y z : Str) (us : List V) (ds : List (Int × List Stp)) (kvs : List (Key × V)) (cs : List V) (qs : List Pt), vs = [.ref A, .ref t, .int d, .int u, .ref B, .ref T] ∧ H A = some (.tup us) ∧ Paired (DeedOk H) us ds ∧ ds.length ≤ 60 ∧ (ds.map (·.1)).Pairwise (· ≤ ·) ∧ H t = some (.tup [.str y, .str z]) ∧ Wd y ∧ Wd z ∧ d ≤ 10 ^ 12 ∧ u ≤ 10 ^ 12 ∧ H B = some (.dK kvs) ∧
  (valV kvs (.inr z) = (lastOf y d (allS (ds.filter fun e => known (some u) e.1)) z).bind fun s => if s.wv = .non then none else some s.wv) ∧ H T = some (.tup cs) ∧ Pts H cs qs ∧ Can qs.reverse ∧ qs.length ≤ 480 ∧ (∀ e, textAt qs.reverse e = atR ((sel y z (some u) ds).map fun x => stPt x.2.2) e) ∧ ∀ H', Same H H' → Q (.bl true) H'
section
variable {P : Program} {w : World} {K : PySem.W.Frag} {mg : Str → Option Value} {base : Heap}
theorem scCell : FnScope cellN cellP (defScope sCell) := ⟨rfl, rfl, rfl, by decide +kernel, rfl, by decide +kernel, by decide +kernel⟩
theorem ok_cell {f fB fP fF fK fL fT : Addr} {fd dB dP dF dK dL dT : FuncData} (F : Fun K "_law_cell_right" "_law_cell_right" sCell f fd)
    (FB : FunD K "told_by" "told_by" (defArgs sToldBy) (defBody sToldBy) (defScope sToldBy) [] kwK fB dB) (GB : FnOk P w K mg base CX0 3 fB dB psT spToldBy) (mB : mg "told_by" = some (.ref fB))
    (GP : FnOk P w K mg base CX0 1 fP dP ["_law_step"] spParts) (bP : Binds K dP ["_law_step"] []) (kP : PySem.W.keepIn K (.ref fP) = true) (mP : mg "_law_parts" = some (.ref fP))
    (GF : FnOk P w K mg base CX0 2 fF dF ["line", "day"] spFound) (bF : Binds K dF ["line", "day"] []) (kF : PySem.W.keepIn K (.ref fF) = true) (mF : mg "found" = some (.ref fF))
    (GK : FnOk P w K mg base CX0 4 fK dK ["deeds", "table", "key", "day"] spKLine) (bK : Binds K dK ["deeds", "table", "key", "day"] []) (kK : PySem.W.keepIn K (.ref fK) = true) (mK : mg "known_line" = some (.ref fK))
    (GL : FnOk P w K mg base CX0 2 fL dL ["_law_rows", "_law_day"] spLast) (bL : Binds K dL ["_law_rows", "_law_day"] []) (kL : PySem.W.keepIn K (.ref fL) = true) (mL : mg "_law_last" = some (.ref fL))
    (GT : FnOk P w K mg base CX0 2 fT dT ["_law_deeds", "_law_place", "_law_until"] spTold) (bT : Binds K dT ["_law_deeds", "_law_place", "_law_until"] []) (kT : PySem.W.keepIn K (.ref fT) = true) (mT : mg "_law_told" = some (.ref fT))
    (mrp : mg "repr" = none) : FnG P w K mg base CX0 5 f fd cellP spCell := by
  refine okG F scCell (fun vs H Q E h => ?_) (fun cdv A0 outer s H vs Q E hgd hr h => ?_)
  · obtain ⟨A, t, B, T, d, u, y, z, us, ds, kvs, cs, qs, rfl, _⟩ := h
    rfl
  obtain ⟨A, t, B, T, d, u, y, z, us, ds, kvs, cs, qs, rfl, hA, hD, lD, pw, ht, wy, wz, hd, hu12, hB, hval, hT, hP, can, lq, tx, qq⟩ := h
  have hr1 : Room 1 _ := hr.mono (by decide)
  have hr2 : Room 2 _ := hr.mono (by decide)
  have hr3 : Room 3 _ := hr.mono (by decide)
  have hu := hr.units
  have hu1 : _ + 1 < cLine := Nat.lt_of_le_of_lt (Nat.add_le_add_left (by decide : 1 ≤ 64) _) hu
  have kB := FB.kp
  refine ⟨_, (pss_cons (ps_par (by rfl) scCell.nd (i := 6) (j := 7) rfl rfl (by decide) rfl rfl (pa_cons (pe_callN GB hr3 (by rfl) mB kB (kwt_k FB) pass0 (pa_cons (pv 0) (pa_cons (pe_ix ix_tup (pv 1) pe_int (fun _ _ => rfl)) (pa_cons (pe_ix ix_tup (pv 1) pe_int (fun _ _ => rfl)) (pa_cons (pv 2) pa_nil)))) (pk_cons (pv 3) pk_nil)) (pa_cons pe_non pa_nil)) (by rfl))
    (pss_cons (ps_if (pt_cmp (pc_notN (pv 6))) (pss_one (ps_set (i := 7) scCell.nd rfl (Or.inl rfl) (pe_ix ix_tup (pe_call GP hr1 (by rfl) mP kP bP .nil pass0 (pa_cons (pe_ix ix_tup (pe_ix ix_tup (pe_ix ix_tup (pv 0) (pe_ix ix_tup (pv 6) pe_int (fun _ _ => rfl)) (fun _ _ => rfl)) pe_int (fun _ _ => rfl)) (pe_ix ix_tup (pv 6) pe_int (fun _ _ => rfl)) (fun _ _ => rfl)) pa_nil)) pe_int (fun _ _ => rfl)))) pss_nil)
    (pss_cons (ps_set (i := 8) scCell.nd rfl (Or.inl rfl) (pe_lst (pa_cons (pe_call GF hr2 (by rfl) mF kF bF .nil pass0 (pa_cons (pv 5) (pa_cons (pv 2) pa_nil))) (pa_cons (pe_dget1 hu1 (pv 4) (pe_ix ix_tup (pv 1) pe_int (fun _ _ => rfl)) ⟨rfl, rfl, rfl, rfl⟩) (pa_cons (pe_call GF hr2 (by rfl) mF kF bF .nil pass0 (pa_cons (pe_call GK hr (by rfl) mK kK bK .nil pass0 (pa_cons (pv 0) (pa_cons (pe_ix ix_tup (pv 1) pe_int (fun _ _ => rfl)) (pa_cons (pe_ix ix_tup (pv 1) pe_int (fun _ _ => rfl)) (pa_cons (pv 2) pa_nil))))) (pa_cons (pv 3) pa_nil))) pa_nil)))))
    (pss_cons (ps_set (i := 9) scCell.nd rfl (Or.inl rfl) (pe_call GL hr2 (by rfl) mL kL bL .nil pass0 (pa_cons (pe_call GT hr2 (by rfl) mT kT bT .nil pass0 (pa_cons (pv 0) (pa_cons (pv 1) (pa_cons (pv 3) pa_nil)))) (pa_cons (pv 2) pa_nil))))
    (pss_one (ps_ret (pe_and (pe_cmpR op_eq (pe_callB (call_repr hgd hu) (by rfl) mrp (by decide +kernel) (pa_cons (pv 8) pa_nil)) (pe_callB (call_repr hgd hu) (by rfl) mrp (by decide +kernel) (pa_cons (pe_op op_rep (pe_lst (pa_cons (pv 7) pa_nil)) pe_int) pa_nil)) (nomark _)) (pe_one (pe_cmpR op_eq (pe_callB (call_repr hgd hu) (by rfl) mrp (by decide +kernel) (pa_cons (pv 6) pa_nil)) (pe_callB (call_repr hgd hu) (by rfl) mrp (by decide +kernel) (pa_cons (pe_ifExp (pt_cmp (pc_isN (pv 9))) pe_non (pe_ix ix_tup (pv 9) pe_int (fun _ _ => rfl))) pa_nil)) (nomark _)))))))))), ?_⟩
  have sa : sel y z (some u) ds = sel y z none (ds.filter fun e => known (some u) e.1) := sel_all pw
  obtain ⟨X, eX⟩ : ∃ X, X = lastK (sel y z (some u) ds) d := ⟨_, rfl⟩
  dsimp only
  refine seq_cut (fun σ' H' => ∃ v6 : V, σ' = [some (.ref A), some (.ref t), some (.int d), some (.int u), some (.ref B), some (.ref T), some v6, some .non, none, none] ∧ NumOk H' v6 X ∧ Same H H') (fun Rr => ?_) ?_
  · refine ⟨_, rfl, _, rfl, t, _, _, .str y, rfl, rfl, SqT.of ht, atI_nat (j := 0) rfl, _, rfl, t, _, _, .str z, rfl, rfl, SqT.of ht, atI_nat (j := 1) rfl, _, rfl, _, rfl, rfl, rfl, A, some u, y, z, d, us, ds, rfl, hd, hA, hD, lD, fun v H1 s1 v1 v2 => ⟨_, _, rfl, Rr _ _ ⟨v, rfl, ?_, s1⟩⟩⟩
    rw [← sa, ← eX] at v1 v2
    cases X with
    | none => exact v2 rfl
    | some x => exact v1 x rfl
  rintro σ' H1 ⟨v6, rfl, num, s1⟩
  refine seq_cut (fun σ' H' => ∃ (v7 : V) (d7 : PyData), σ' = [some (.ref A), some (.ref t), some (.int d), some (.int u), some (.ref B), some (.ref T), some v6, some v7, none, none] ∧ WhatOk H' v7 d7 ∧ d7.shown = lastT X ∧ NumOk H' v6 X ∧ Same H H') (fun Rr => ?_) ?_
  · refine ⟨_, rfl, _, rfl, ?_⟩
    cases X with
    | none =>
      cases (show v6 = .non from num)
      exact ff2 rfl (Rr _ _ ⟨.non, .none, rfl, .inl .non, rfl, rfl, s1⟩)
    | some x =>
      obtain ⟨tn, rfl, htn, sm1, sm2⟩ := num
      obtain ⟨e, he, hst⟩ := sel_at (last_in eX.symm)
      have lu : us.length = ds.length := Paired.length hD
      obtain ⟨ue, hue⟩ : ∃ ue, us[x.1]? = some ue := ⟨_, List.getElem?_eq_getElem (by have := (List.getElem?_eq_some_iff.mp he).1; omega)⟩
      obtain ⟨e', he', De⟩ := paired_at (paired_mono (fun _ _ c => c.keep (Keep.of s1)) hD) hue
      rw [he] at he'
      cases he'
      obtain ⟨te, S, ss, rfl, hte, hS, pS, _, _, _⟩ := De
      have ls : ss.length = e.2.length := Paired.length pS
      obtain ⟨us2, hus2⟩ : ∃ v, ss[x.2.1]? = some v := ⟨_, List.getElem?_eq_getElem (by have := (List.getElem?_eq_some_iff.mp hst).1; omega)⟩
      obtain ⟨st', hst', ok⟩ := paired_at pS hus2
      rw [hst] at hst'
      cases hst'
      refine tt2 rfl ⟨_, rfl, _, rfl, tn, _, _, .int (x.1 : Int), rfl, rfl, SqT.of htn, atI_nat (j := 0) rfl, A, _, _, .ref te, rfl, rfl, SqT.of (s1 _ _ hA), atI_nat hue, te, _, _, .ref S, rfl, rfl, SqT.of hte, atI_nat (j := 1) rfl, _, rfl, tn, _, _, .int (x.2.1 : Int), rfl, rfl, SqT.of htn, atI_nat (j := 1) rfl, S, _, _, us2, rfl, rfl, SqT.of hS, atI_nat hus2, us2, x.2.2, rfl, ok, fun R a2 H2 ha2 hR s2 => ⟨R, _, _, x.2.2.wv, rfl, rfl, SqT.of hR, atI_nat (j := 1) rfl, Rr _ _ ⟨x.2.2.wv, x.2.2.wd, rfl, (ok.keep (Keep.of s2)).what, rfl, ⟨tn, rfl, s2 _ _ htn, sm1, sm2⟩, s1.trans s2⟩⟩⟩
  rintro σ' H2 ⟨v7, d7, rfl, w7, t7, num2, s2⟩
  have hT2 := s2 _ _ hT
  have ht2 := s2 _ _ ht
  have hB2 := s2 _ _ hB
  have hA2 := s2 _ _ hA
  have hD2 : Paired (DeedOk H2) us ds := paired_mono (fun _ _ c => c.keep (Keep.of s2)) hD
  refine ⟨_, rfl, _, rfl, T, d, cs, qs, rfl, hT2, pts_keep (Keep.of s2) hP, can.down, by omega, hd, fun v1 x1 w1 t1 _ => ?_⟩
  rw [tx d, line_last, ← eX] at t1
  refine ⟨_, rfl, B, rfl, .inl ⟨kvs, .inl hB2⟩, _, rfl, t, _, _, .str z, rfl, rfl, SqT.of ht2, atI_nat (j := 1) rfl, _, DGet.k (k := .inr z) hB2, ?_⟩
  obtain ⟨x2, w2, t2⟩ : ∃ x2, WhatOk H2 ((valV kvs (.inr z)).getD .non) x2 ∧ x2.shown = lastT X := by
    rw [hval, ← last_steps, ← eX]
    cases X with
    | none => exact ⟨.none, .inl .non, rfl⟩
    | some x =>
      obtain ⟨⟨vx, okx⟩, _⟩ := sel_ok hD2 (last_in eX.symm)
      have wx := okx.what
      show ∃ x2, WhatOk H2 ((if x.2.2.wv = .non then none else some x.2.2.wv : Option V).getD .non) x2 ∧ x2.shown = x.2.2.wd.shown
      by_cases c : x.2.2.wv = .non
      · rw [if_pos c]
        rw [c] at wx
        exact ⟨.none, .inl .non, by rw [wx.non]⟩
      · rw [if_neg c]
        exact ⟨_, wx, rfl⟩
  refine ⟨_, rfl, _, rfl, t, _, _, .str y, rfl, rfl, SqT.of ht2, atI_nat (j := 0) rfl, _, rfl, t, _, _, .str z, rfl, rfl, SqT.of ht2, atI_nat (j := 1) rfl, _, rfl, A, y, z, d, us, ds, rfl, hd, hA2, hD2, lD, fun TK cK qK H3 hTK hPK canK txK lqK s3 => ⟨_, rfl, TK, u, cK, qK, rfl, hTK, hPK, canK.down, by omega, hu12, fun v3 x3 w3 t3 _ => ?_⟩⟩
  rw [txK u, kline_last hu12, ← eX] at t3
  refine ⟨(by rw [sizeLine_eq]; simp), fun LL nLL => ?_⟩
  have gL : Same H3 _ := same_new nLL (.lst [v1, (valV kvs (.inr z)).getD .non, v3])
  have s2L := s3.trans gL
  have sHL := s2.trans s2L
  have kL2 := Keep.of s2L
  refine ⟨_, rfl, _, rfl, _, rfl, A, t, some u, y, z, us, ds, rfl, sHL _ _ hA, paired_mono (fun _ _ c => c.keep (Keep.of sHL)) hD, lD, sHL _ _ ht, wy, wz, fun LR bs rs H4 nLR hLR hRR ers lrs s4 => ⟨_, rfl, LR, d, bs, rs, rfl, hLR, hRR, lrs, hd, fun v9 H5 s5 r1 r2 => ?_⟩⟩
  have s45 := s4.trans s5
  have kL5 := kL2.trans (Keep.of s45)
  have hLL5 := s45 _ _ (upd_same : (upd H3 LL (.lst [v1, (valV kvs (.inr z)).getD .non, v3])) LL = some (.lst [v1, (valV kvs (.inr z)).getD .non, v3]))
  obtain ⟨D1, p1, p2, p3, p4, p5, p6⟩ := three (K := K) hLL5 (w1.keep kL5) (w2.keep kL5) (w3.keep ((Keep.of gL).trans (Keep.of s45))) t1 t2 t3
  refine ⟨_, rfl, .ref LL, D1, rfl, p1, p2, p3, p4, p5, _, rfl, (by rw [sizeLine_eq]; simp), fun L1 n1 => ?_⟩
  have g1 : Same H5 _ := same_new n1 (.lst [v7])
  refine ⟨L1, 3, [v7], rfl, rfl, upd_same, by decide, by decide, (by rw [sizeLine_eq]; simp), fun L2 n2 => ?_⟩
  have g2 : Same _ _ := same_new n2 (.lst (List.replicate (3 : Int).toNat [v7]).flatten)
  have g12 := g1.trans g2
  have w7' := w7.keep (kL5.trans (Keep.of g12))
  obtain ⟨D2, q1, q2, q3, q4, q5, q6⟩ := three (K := K) (show (upd (upd H5 L1 (.lst [v7])) L2 (.lst (List.replicate (3 : Int).toNat [v7]).flatten)) L2 = some (.lst [v7, v7, v7]) from upd_same) w7' w7' w7' t7 t7 t7
  refine ⟨.ref L2, D2, rfl, q1, q2, q3, q4, q5, rfl, _, rfl, ?_⟩
  refine tt2 (by rw [p6, q6]; simp) ?_
  have kF := kL5.trans (Keep.of g12)
  obtain ⟨D3, m1, m2, m3, m4, m5, m6⟩ := num_repr (K := K) (num2.keep kF)
  refine ⟨_, rfl, v6, D3, rfl, m1, m2, m3, m4, m5, ?_⟩
  have lk := last_key rs d
  rw [ers, ← eX] at lk
  have fin : ∀ v : V, NumOk (upd (upd H5 L1 (.lst [v7])) L2 (.lst (List.replicate (3 : Int).toNat [v7]).flatten)) v X → ∃ (x : V) (D : PyData), [v] = [x] ∧ Dp K (upd (upd H5 L1 (.lst [v7])) L2 (.lst (List.replicate (3 : Int).toNat [v7]).flatten)) x D ∧ D.showable = true ∧ D.hasDict = false ∧ D.depth ≤ 60 ∧ D.shown.length ≤ sizeLine ∧ D.shown = numT X := fun v h => by
    obtain ⟨D4, z1, z2, z3, z4, z5, z6⟩ := num_repr (K := K) h
    exact ⟨v, D4, rfl, z1, z2, z3, z4, z5, z6⟩
  have sF : Same H _ := (sHL.trans s45).trans g12
  cases hl : lastRow rs d with
  | none =>
    rw [hl] at lk
    have e9 := r2 hl
    subst e9
    obtain ⟨x, D4, ex, z1, z2, z3, z4, z5, z6⟩ := fin .non (by rw [show X = none from lk]; exact rfl)
    cases ex
    refine ⟨_, rfl, _, rfl, tt2 rfl ⟨.non, D4, rfl, z1, z2, z3, z4, z5, rfl, ?_⟩⟩
    have h := qq _ sF
    rw [m6, z6]
    simpa using h
  | some r =>
    rw [hl] at lk
    have ok9 := (r1 r hl).keep (Keep.of g12)
    obtain ⟨t9, rfl, ht9⟩ := ok9.at_
    obtain ⟨x, D4, ex, z1, z2, z3, z4, z5, z6⟩ := fin (.ref r.i) (by rw [show X = some (Row.key r) from lk]; exact ⟨r.i, rfl, ok9.id_, ok9.k_, ok9.j_⟩)
    cases ex
    refine ⟨_, rfl, _, rfl, ff2 rfl ⟨_, rfl, t9, _, _, .ref r.i, rfl, rfl, SqT.of ht9, atI_nat (j := 0) rfl, .ref r.i, D4, rfl, z1, z2, z3, z4, z5, rfl, ?_⟩⟩
    have h := qq _ sF
    rw [m6, z6]
    simpa using h
end
end Q20
namespace Q20
open PySem L2 L2.Gd L2.SetL Ln Sp2
abbrev sLaw : Stmt := top 34
def lawN : List Str := ["_law_script", "_law_urn", "_law_tables", "_law_keys", "_law_words_here", "_law_deeds", "_law_later", "_law_name", "_law_wide", "_law_until", "_law_key", "_law_line", "_law_day", "_law_rows", "_law_held"]
theorem scLaw : FnScope lawN ["_law_script"] (defScope sLaw) := ⟨rfl, rfl, rfl, by decide +kernel, rfl, by decide +kernel, by decide +kernel⟩
def spLaw (K : PySem.W.Frag) : Sp := fun vs H Q _ => ∃ (a : Addr) (ns : List Int), vs = [.ref a] ∧ SqL K H a (ns.map V.int) ∧ ns.length ≤ 63 ∧ ∀ H', Q (.bl true) H'
theorem catA_exact {K : PySem.W.Frag} {H : Hp} {a b : Addr} {xs ys : List V} {Q : VK} (ha : H a = some (.tup xs)) (hb : H b = some (.tup ys)) (hl : xs.length + ys.length ≤ sizeLine) (h : ∀ (c : Addr) (H' : Hp), Same H H' → H' c = some (.tup (xs ++ ys)) → Q (.ref c) H') : rCatA K (.ref a) (.ref b) H Q :=
  ⟨a, b, xs, ys, rfl, rfl, SqT.of ha, SqT.of hb, hl, fun e => h b H (Same.refl _) (by rw [e]; exact hb), fun _ e => h a H (Same.refl _) (by rw [e, List.append_nil]; exact ha), fun _ _ p np => h p _ (same_new np _) upd_same⟩
theorem line_repr {K : PySem.W.Frag} {H : Hp} {cs : List V} {qs : List Pt} (h : Pts H cs qs) (hl : qs.length ≤ 10000) : ∃ ds, DpAll K H cs ds ∧ (PyData.tuple ds).showable = true ∧ (PyData.tuple ds).hasDict = false ∧ (PyData.tuple ds).depth ≤ 60 ∧ (PyData.tuple ds).shown.length ≤ sizeLine ∧ (PyData.tuple ds).shown = tupleText ((qs.map key).map ptext) := by
  obtain ⟨ds, d1, d2⟩ := pts_data (K := K) h
  obtain ⟨f1, f2, f3, f4, f5⟩ := d2.facts (by rw [List.length_map]; exact hl)
  exact ⟨ds, d1, f1, f2, f3, f4, f5⟩
def rowK (x : Str × Stp) : Key × V := (.inr x.1, x.2.wv)
theorem out_fst {y : Str} {day : Int} {ss : List Stp} {z : Str} {x : Str × Stp} (h : outR y day ss z = some x) : x.1 = z ∧ ∃ s ∈ ss, s.ky = z := by
  unfold outR at h
  cases e : lastOf y day ss z with
  | none => rw [e] at h; cases h
  | some s =>
    rw [e] at h
    have h' : (if s.wv = .non then none else some (z, s)) = some x := h
    obtain ⟨m, _, hk⟩ := last_mem2 e
    by_cases c : s.wv = .non
    · rw [if_pos c] at h'
      cases h'
    · rw [if_neg c] at h'
      cases h'
      exact ⟨rfl, s, m, hk⟩
theorem val_rows {y : Str} {day : Int} {ss : List Stp} (z : Str) : ∀ zs : List Str, zs.Nodup → valV ((zs.filterMap (outR y day ss)).map rowK) (.inr z) = if z ∈ zs then (outR y day ss z).map (fun x => x.2.wv) else none
  | [], _ => rfl
  | a :: r, n => by
    rw [List.nodup_cons] at n
    have ih := val_rows (y := y) (day := day) (ss := ss) z r n.2
    cases e : outR y day ss a with
    | none =>
      rw [List.filterMap_cons_none e, ih]
      by_cases c : z = a
      · subst c
        rw [if_neg n.1, if_pos (List.mem_cons_self ..), e]
        rfl
      · by_cases c2 : z ∈ r
        · rw [if_pos c2, if_pos (List.mem_cons_of_mem _ c2)]
        · rw [if_neg c2, if_neg fun h => (List.mem_cons.mp h).elim c c2]
    | some x =>
      have ex := (out_fst e).1
      rw [List.filterMap_cons_some e, List.map_cons]
      by_cases c : z = a
      · subst c
        rw [valV_pos (show (rowK x).1 = Sum.inr z by unfold rowK; rw [ex]), if_pos (List.mem_cons_self ..), e]
        rfl
      · rw [valV_neg (show ¬ (rowK x).1 = Sum.inr z from fun h => c (by unfold rowK at h; rw [← ex]; exact (Sum.inr.inj h).symm)), ih]
        by_cases c2 : z ∈ r
        · rw [if_pos c2, if_pos (List.mem_cons_of_mem _ c2)]
        · rw [if_neg c2, if_neg fun h => (List.mem_cons.mp h).elim c c2]
theorem merge_new : ∀ (kvs acc : List (Key × V)), (kvs.map (·.1)).Nodup → (∀ k ∈ kvs.map (·.1), k ∉ acc.map (·.1)) → mergeK acc kvs = acc ++ kvs
  | [], acc, _, _ => (List.append_nil _).symm
  | p :: r, acc, n, h => by
    rw [List.map_cons, List.nodup_cons] at n
    have h0 := h p.1 (List.mem_cons_self ..)
    have e : putK acc p.1 p.2 = acc ++ [p] := putK_new p.2 (val_none1 h0)
    show mergeK (putK acc p.1 p.2) r = _
    rw [e, merge_new r (acc ++ [p]) n.2 fun k hk hm => ?_, List.append_assoc]
    · rfl
    · rw [List.map_append, List.mem_append] at hm
      rcases hm with hm | hm
      · exact h k (List.mem_cons_of_mem _ hk) hm
      · have : k = p.1 := by simpa using hm
        exact n.1 (this ▸ hk)
theorem rows_nodup {y : Str} {day : Int} {ss : List Stp} : ∀ zs : List Str, zs.Nodup → (((zs.filterMap (outR y day ss)).map rowK).map (·.1)).Nodup ∧ ∀ k ∈ ((zs.filterMap (outR y day ss)).map rowK).map (·.1), ∃ z ∈ zs, k = .inr z
  | [], _ => ⟨List.nodup_nil, fun k hk => (nomatch hk)⟩
  | a :: r, n => by
    rw [List.nodup_cons] at n
    obtain ⟨i1, i2⟩ := rows_nodup (y := y) (day := day) (ss := ss) r n.2
    cases e : outR y day ss a with
    | none =>
      rw [List.filterMap_cons_none e]
      exact ⟨i1, fun k hk => let ⟨z, hz, ez⟩ := i2 k hk; ⟨z, List.mem_cons_of_mem _ hz, ez⟩⟩
    | some x =>
      have ex := (out_fst e).1
      rw [List.filterMap_cons_some e, List.map_cons, List.map_cons, List.nodup_cons]
      refine ⟨⟨fun hm => ?_, i1⟩, fun k hk => ?_⟩
      · obtain ⟨z, hz, ez⟩ := i2 _ hm
        have : x.1 = z := Sum.inr.inj ez
        exact n.1 (by rw [← ex, this]; exact hz)
      · rcases List.mem_cons.mp hk with rfl | hk
        · exact ⟨a, List.mem_cons_self .., by show Sum.inr x.1 = _; rw [ex]⟩
        · obtain ⟨z, hz, ez⟩ := i2 k hk
          exact ⟨z, List.mem_cons_of_mem _ hz, ez⟩
theorem same_zs {zs zs' : List Str} {p : Str → Prop} (s1 : PyProof.Rows.sortedS zs = true) (n1 : zs.Nodup) (m1 : ∀ z, z ∈ zs ↔ p z) (s2 : PyProof.Rows.sortedS zs' = true) (n2 : zs'.Nodup) (m2 : ∀ z, z ∈ zs' ↔ p z) : zs = zs' := by
  have nd : ∀ {l : List Str}, l.Nodup → (l.map fun z => (("" : Str), z)).Nodup := fun n => List.pairwise_map.mpr (n.imp fun hn e => hn (Prod.mk.inj e).2)
  have h := uniq_sorted (sorted_le (y := "") s1) (sorted_le (y := "") s2) (nd n1) (nd n2) fun x => by
    rw [List.mem_map, List.mem_map]
    constructor
    · rintro ⟨z, hz, rfl⟩
      exact ⟨z, (m2 z).mpr ((m1 z).mp hz), rfl⟩
    · rintro ⟨z, hz, rfl⟩
      exact ⟨z, (m1 z).mpr ((m2 z).mp hz), rfl⟩
  have h2 := congrArg (List.map Prod.snd) h
  rw [List.map_map, List.map_map] at h2
  have id1 : ∀ l : List Str, l.map (Prod.snd ∘ fun z => (("" : Str), z)) = l := fun l => List.map_id l
  rwa [id1, id1] at h2
theorem pairs_rows {H : Hp} : ∀ {ws : List V} {xs : List (Str × Stp)}, Paired (ROk H) ws xs → Paired (Dc.PrAt H) ws (xs.map rowK)
  | _, _, .nil => .nil
  | _, _, .cons h r => .cons (let ⟨⟨b, e1, e2⟩, _⟩ := h; ⟨b, e1, e2⟩) (pairs_rows r)
theorem rows_wd2 {H : Hp} {us : List V} {ds : List (Int × List Stp)} (hD : Paired (DeedOk H) us ds) {un : Option Int} {y : Str} {day : Int} {zs : List Str} : ∀ x ∈ zs.filterMap (outR y day (allS (ds.filter fun d => known un d.1))), Wd x.1 := fun x hx => by
  obtain ⟨z, _, e⟩ := List.mem_filterMap.mp hx
  obtain ⟨ex, s, hs, hk⟩ := out_fst e
  obtain ⟨d, hd, hs⟩ := List.mem_flatMap.mp hs
  obtain ⟨_, t, S, ss, _, _, _, pS, _⟩ := paired_mem hD d (List.mem_filter.mp hd).1
  obtain ⟨_, ok⟩ := paired_mem pS s hs
  rw [ex, ← hk]
  exact ok.1.ky
section
variable {P : Program} {w : World} {K : PySem.W.Frag} {mg : Str → Option Value} {base : Heap}
theorem ok_law {f fS fT fO fOr fW fN fC fL fR : Addr} {fd dS dT dO dOr dW dN dC dL dR : FuncData} (F : Fun K "law" "law" sLaw f fd)
    (GS : FnOk P w K mg base CX0 1 fS dS ["_law_script"] (spStart K)) (bS : Binds K dS ["_law_script"] []) (kS : PySem.W.keepIn K (.ref fS) = true) (mS : mg "_law_start" = some (.ref fS))
    (GT : FnOk P w K mg base CX0 1 fT dT ["_law_urn", "_law_many"] spTake) (bT : Binds K dT ["_law_urn", "_law_many"] []) (kT : PySem.W.keepIn K (.ref fT) = true) (mT : mg "_law_take" = some (.ref fT))
    (GO : FnOk P w K mg base CX0 2 fO dO ["_law_urn", "_law_some"] spOf) (bO : Binds K dO ["_law_urn", "_law_some"] []) (kO : PySem.W.keepIn K (.ref fO) = true) (mO : mg "_law_of" = some (.ref fO))
    (GOr : FnOk P w K mg base CX0 2 fOr dOr ["_law_urn", "_law_some"] spOrder) (bOr : Binds K dOr ["_law_urn", "_law_some"] []) (kOr : PySem.W.keepIn K (.ref fOr) = true) (mOr : mg "_law_order" = some (.ref fOr))
    (GW : FnOk P w K mg base CX0 3 fW dW ["_law_urn", "_law_many"] spWords) (bW : Binds K dW ["_law_urn", "_law_many"] []) (kW : PySem.W.keepIn K (.ref fW) = true) (mW : mg "_law_words" = some (.ref fW))
    (GN : FnOk P w K mg base CX0 3 fN dN nearP spNear) (bN : Binds K dN nearP []) (kN : PySem.W.keepIn K (.ref fN) = true) (mN : mg "_law_near" = some (.ref fN))
    (GC : FnG P w K mg base CX0 5 fC dC cellP spCell) (bC : Binds K dC cellP []) (kC : PySem.W.keepIn K (.ref fC) = true) (mC : mg "_law_cell_right" = some (.ref fC))
    (FL : FunD K "line_of" "line_of" (defArgs sLineOf) (defBody sLineOf) (defScope sLineOf) [] kwL fL dL) (GL : FnOk P w K mg base CX0 4 fL dL psL spLineOf) (mL : mg "line_of" = some (.ref fL))
    (FR : FunD K "rows_at" "rows_at" (defArgs sRows) (defBody sRows) (defScope sRows) [] kwR fR dR) (GR : FnOk P w K mg base CX0 3 fR dR psR spRows) (mR : mg "rows_at" = some (.ref fR))
    (mrp : mg "repr" = none) (ml : mg "len" = none) (mr : mg "range" = none) (mli : mg "list" = none) (md : mg "dict" = none) : FnG P w K mg base CX0 6 f fd ["_law_script"] (spLaw K) := by
  refine okG F scLaw (fun vs H Q E h => ?_) (fun cdv A0 outer s H vs Q E hgd hr h => ?_)
  · obtain ⟨a, ns, rfl, _⟩ := h
    rfl
  obtain ⟨a, ns, rfl, hS, h63, q0⟩ := h
  have hr1 : Room 1 _ := hr.mono (by decide)
  have hr2 : Room 2 _ := hr.mono (by decide)
  have hr3 : Room 3 _ := hr.mono (by decide)
  have hr4 : Room 4 _ := hr.mono (by decide)
  have hu := hr.units
  have kR := FR.kp
  have kL := FL.kp
  refine ⟨_, PSs.nox (pss_cons (ps_set (i := 1) scLaw.nd rfl (Or.inr rfl) (pe_call GS hr1 (by rfl) mS kS bS .nil pass0 (pa_cons (pv 0) pa_nil)))
      (pss_cons (ps_setLc (i := 2) (own := [("_law_name", 7)]) (g := gName 7) (by rfl) scLaw.nd rfl rfl (sw_true rfl rfl rfl (by decide +kernel)) (pi_list (pe_call GW hr3 (by rfl) mW kW bW .nil pass0 (pa_cons (pv 1) (pa_cons (pe_op op_add pe_int (pe_call GT hr1 (by rfl) mT kT bT .nil pass0 (pa_cons (pv 1) (pa_cons pe_int pa_nil)))) pa_nil)))) (blkOk_by (own := [("_law_name", 7)]) (N := lawN) (sc := defScope sLaw) (by decide +kernel)) (fun _ _ _ _ _ => pg_name (i := 7) scLaw.nd rfl (Or.inl rfl)) (fun _ _ _ _ _ => pts_nil) (fun _ _ _ _ _ => pe_tup (pa_cons (pv 7) (pa_cons (pe_call GT hr1 (by rfl) mT kT bT .nil pass0 (pa_cons (pv 1) (pa_cons pe_int pa_nil))) pa_nil))))
      (pss_cons (ps_par (by rfl) scLaw.nd (i := 3) (j := 4) rfl rfl (by decide) rfl rfl (pa_cons (pe_call GW hr3 (by rfl) mW kW bW .nil pass0 (pa_cons (pv 1) (pa_cons pe_int pa_nil))) (pa_cons (pe_call GW hr3 (by rfl) mW kW bW .nil pass0 (pa_cons (pv 1) (pa_cons pe_int pa_nil))) pa_nil)) (by rfl))
      (pss_cons (ps_set (i := 5) scLaw.nd rfl (Or.inl rfl) (pe_call GN hr3 (by rfl) mN kN bN .nil pass0 (pa_cons (pv 1) (pa_cons (pv 2) (pa_cons (pv 3) (pa_cons (pv 4) (pa_cons (pe_call GT hr1 (by rfl) mT kT bT .nil pass0 (pa_cons (pv 1) (pa_cons pe_int pa_nil))) (pa_cons (pe_op op_add pe_int (pe_call GT hr1 (by rfl) mT kT bT .nil pass0 (pa_cons (pv 1) (pa_cons pe_int pa_nil)))) pa_nil))))))))
      (pss_cons (ps_set (i := 6) scLaw.nd rfl (Or.inl rfl) (pe_op op_catA (pv 5) (pe_call GN hr3 (by rfl) mN kN bN .nil pass0 (pa_cons (pv 1) (pa_cons (pv 2) (pa_cons (pv 3) (pa_cons (pv 4) (pa_cons (pe_op op_add (pe_ix ix_tup (pe_ix ix_tup (pv 5) (pe_un un_neg pe_int) (fun _ _ => rfl)) pe_int (fun _ _ => rfl)) pe_int) (pa_cons (pe_call GT hr1 (by rfl) mT kT bT .nil pass0 (pa_cons (pv 1) (pa_cons pe_int pa_nil))) pa_nil)))))))))
      (pss_cons (ps_asg (pe_call GO hr2 (by rfl) mO kO bO .nil pass0 (pa_cons (pv 1) (pa_cons (pv 2) pa_nil))) (pg_tup rfl (pgs_cons (pg_name (i := 7) scLaw.nd rfl (.inl rfl)) (pgs_cons (pg_name (i := 8) scLaw.nd rfl (.inl rfl)) pgs_nil))))
      (pss_cons (ps_for PassesOwn.never rfl (pi_range1 (by rfl) mr (pa_cons (pe_op op_add (pe_ix ix_tup (pe_ix ix_tup (pv 5) (pe_un un_neg pe_int) (fun _ _ => rfl)) pe_int (fun _ _ => rfl)) pe_int) pa_nil)) (pg_name (i := 9) scLaw.nd rfl (.inl rfl)) (pss_one (ps_for PassesOwn.never rfl (pi_list (pv 3)) (pg_name (i := 10) scLaw.nd rfl (.inl rfl)) (pss_cons (ps_set (i := 11) scLaw.nd rfl (Or.inl rfl) (pe_callN GL hr4 (by rfl) mL kL (kwl_k FL) pass0 (pa_cons (pv 6) (pa_cons (pv 7) (pa_cons (pv 10) pa_nil))) (pk_cons (pv 9) pk_nil)))
      (pss_cons (ps_if (pt_cmpR op_ne (pe_callB (call_repr hgd hu) (by rfl) mrp (by decide +kernel) (pa_cons (pe_callN GL hr4 (by rfl) mL kL (kwl_k FL) pass0 (pa_cons (pv 5) (pa_cons (pv 7) (pa_cons (pv 10) pa_nil))) (pk_cons (pv 9) pk_nil)) pa_nil)) (pe_callB (call_repr hgd hu) (by rfl) mrp (by decide +kernel) (pa_cons (pv 11) pa_nil)) (nomark _)) (pss_one (ps_ret pe_bl)) pss_nil)
      (pss_one (ps_for PassesOwn.never rfl (pi_list (pe_slice sl_list (pe_call GOr hr2 (by rfl) mOr kOr bOr .nil pass0 (pa_cons (pv 1) (pa_cons (pe_listRg rfl (by rfl) mli (prg_1 (by rfl) mr pe_int)) pa_nil))) po_none (po_some pe_int))) (pg_name (i := 12) scLaw.nd rfl (.inl rfl)) (pss_cons (ps_set (i := 13) scLaw.nd rfl (Or.inl rfl) (pe_callN GR hr3 (by rfl) mR kR (kwr_k FR) pass0 (pa_cons (pv 6) (pa_cons (pv 7) (pa_cons (pv 12) pa_nil))) (pk_cons (pv 9) pk_nil)))
      (pss_cons (ps_set (i := 14) scLaw.nd rfl (Or.inl rfl) (pe_callTy (Dc.call_dictT rfl) (by rfl) md (by decide +kernel) (pa_cons (pv 13) pa_nil)))
      (pss_cons (ps_if (PW.pt (pw_or (pt_cmpR op_ne (pe_callB call_lenD (by rfl) ml PySem.boot_len (pa_cons (pv 14) pa_nil)) (pe_callB call_len_seq (by rfl) ml PySem.boot_len (pa_cons (pv 13) pa_nil)) (nomark _)) (pw_or1 (pt_cmpR op_ne (pe_callB (call_repr hgd hu) (by rfl) mrp (by decide +kernel) (pa_cons (pe_callN GR hr3 (by rfl) mR kR (kwr_k FR) pass0 (pa_cons (pv 5) (pa_cons (pv 7) (pa_cons (pv 12) pa_nil))) (pk_cons (pv 9) pk_nil)) pa_nil)) (pe_callB (call_repr hgd hu) (by rfl) mrp (by decide +kernel) (pa_cons (pv 13) pa_nil)) (nomark _))))) (pss_one (ps_ret pe_bl)) pss_nil)
      (pss_one (ps_if (pt_not (pt_val (pe_callG GC hgd hr (by rfl) mC kC bC pass0 (pa_cons (pv 6) (pa_cons (pe_tup (pa_cons (pv 7) (pa_cons (pv 10) pa_nil))) (pa_cons (pv 12) (pa_cons (pv 9) (pa_cons (pv 14) (pa_cons (pv 11) pa_nil))))))))) (pss_one (ps_ret pe_bl)) pss_nil))))))))))))
      (pss_one (ps_ret pe_bl))))))))), ?_⟩
  refine ⟨_, rfl, a, ns, rfl, hS, h63, fun p q H1 np nq hU1 s1 => ?_⟩
  refine ⟨_, rfl, _, rfl, p, q, 2, rfl, hU1, by decide, by decide, fun r H2 r0 r1 hU2 sb2 => ⟨_, _, rfl, rfl, p, q, (1 + r).toNat, ?_, by omega, hU2, fun Z ys H3 nZ hZ ly wy ndy hU3 sb3 => ?_⟩⟩
  · show [V.ref p, V.int (1 + r)] = _
    rw [Int.toNat_of_nonneg (by omega)]
  have nZ' := hU2.nep nZ
  refine ⟨Z, rfl, ⟨_, SqL.of hZ⟩, fun D nD => ?_⟩
  have nD' := hU3.nep nD
  refine lc_list (K := K) (a := Z) (xs := ys.map V.str) (fun i H4 => ∃ ts : List V, H4 D = some (.lst ts) ∧ ts.length = i ∧ (∀ v ∈ ts, ∃ y ∈ ys, TabOk H4 v y) ∧ Urn H4 p q ∧ But p q H3 H4) ⟨[], upd_same, rfl, fun v hv => (nomatch hv), hU3.same (same_new nD _), (But.refl H3).upd nD⟩ (fun i H4 _ ⟨_, _, _, _, _, s4⟩ => SqL.of (s4 _ _ nZ'.1 nZ'.2 hZ)) ?_ ?_
  · rintro i x H4 hi ⟨ts, e1, e2, e3, hU4, sb4⟩
    obtain ⟨y, hyi, rfl⟩ : ∃ y, ys[i]? = some y ∧ V.str y = x := by
      rw [List.getElem?_map] at hi
      exact Option.map_eq_some_iff.mp hi
    have hy := List.mem_of_getElem? hyi
    have il : i < ys.length := by
      have := (List.getElem?_eq_some_iff.mp hi).1
      rwa [List.length_map] at this
    refine ⟨rfl, _, rfl, _, rfl, p, q, 3, rfl, hU4, by decide, by decide, fun m H5 m0 m1 hU5 sb5 => ⟨(by rw [sizeLine_eq]; simp), fun t nt => ?_⟩⟩
    have gt : Same H5 _ := same_new nt (.tup [.str y, .int m])
    have e6 := gt _ _ (sb5 _ _ nD'.1 nD'.2 e1)
    have k4 : Keep H4 _ := (keep_but hU4 sb5).trans (Keep.of gt)
    have kD : Keep (upd H5 t (.tup [.str y, .int m])) (upd (upd H5 t (.tup [.str y, .int m])) D (.lst (ts ++ [.ref t]))) := fun a xs e => by
      rw [upd_ne (ne_of e e6 (by intro z; cases z))]
      exact e
    have newT : TabOk (upd (upd H5 t (.tup [.str y, .int m])) D (.lst (ts ++ [.ref t]))) (.ref t) y := by
      refine ⟨t, m.toNat, rfl, kD _ _ ?_, wy y hy, by omega⟩
      rw [Int.toNat_of_nonneg m0]
      exact upd_same
    refine ⟨_, e6, small1000 (by omega), ts ++ [.ref t], upd_same, by rw [List.length_append, e2]; rfl, fun v hv => ?_, (hU5.same gt).upd nD'.1 nD'.2, (sb4.trans (sb5.trans (But.of gt))).upd nD⟩
    rcases List.mem_append.mp hv with hv | hv
    · obtain ⟨y', h1, h2⟩ := e3 v hv
      exact ⟨y', h1, (h2.keep k4).keep kD⟩
    · rw [List.mem_singleton.mp hv]
      exact ⟨y, hy, newT⟩
  rintro H4 ⟨tabs, hD, lt, wt, hU4, sb4⟩
  rw [List.length_map] at lt
  have hT4 : Tabs H4 p q D tabs ys := ⟨⟨hD, nD'.1, nD'.2⟩, by omega, by omega, wt⟩
  refine ⟨_, rfl, p, q, 2, rfl, by decide, hU4, fun B keys H5 nB hB lk wk ndk hU5 sb5 => ⟨_, rfl, p, q, 1, rfl, by decide, hU5, fun W words H6 nW hW lw ww _ hU6 sb6 => ⟨_, _, rfl, ?_⟩⟩⟩
  have nB' := hU4.nep nB
  have nW' := hU5.nep nW
  have hB6 : Wds H6 p q B keys := ⟨⟨sb6 _ _ nB'.1 nB'.2 hB, nB'⟩, by omega, by omega, wk⟩
  have hW6 : Wds H6 p q W words := ⟨⟨hW, nW'⟩, by omega, by omega, ww⟩
  have hT6 := hT4.but hU4 (sb5.trans sb6)
  -- the deeds
  refine ⟨_, rfl, _, rfl, _, rfl, _, rfl, _, rfl, p, q, 4, rfl, hU6, by decide, by decide, fun d1 H7 d10 d14 hU7 sb7 => ⟨_, rfl, p, q, 8, rfl, hU7, by decide, by decide, fun n1 H8 n10 n18 hU8 sb8 => ⟨_, _, rfl, rfl, ?_⟩⟩⟩
  have sb68 : But p q H6 H8 := sb7.trans sb8
  have hT8 := hT6.but hU6 sb68
  have hB8 := hB6.but sb68
  have hW8 := hW6.but sb68
  refine ⟨p, q, D, B, W, tabs, ys, keys, words, d1, (1 + n1).toNat, ?_, hT8, hB8, hW8, hU8, d10, by omega, by omega, fun A us ds H9 hA hDs lds pw bd ky hU9 sb9 => ?_⟩
  · rw [Int.toNat_of_nonneg (by omega)]
    rfl
  have dne : ds ≠ [] := fun e => by rw [e] at lds; simp at lds; omega
  obtain ⟨ds0, e, eds⟩ : ∃ ds0 e, ds = ds0 ++ [e] := by
    rcases List.eq_nil_or_concat ds with h | ⟨ds0, e, h⟩
    · exact absurd h dne
    · exact ⟨ds0, e, by rw [h, List.concat_eq_append]⟩
  obtain ⟨us0, ve, eus, _, De⟩ := paired_last (by rw [← eds]; exact hDs)
  have ebd := bd e (by rw [eds]; simp)
  have le_e : ∀ d ∈ ds, d.1 ≤ e.1 := fun d hd => by
    have pw' := pw
    rw [eds, List.map_append, List.pairwise_append] at pw'
    rw [eds] at hd
    rcases List.mem_append.mp hd with h | h
    · exact pw'.2.2 d.1 (List.mem_map.mpr ⟨d, h, rfl⟩) e.1 (by simp)
    · rw [List.mem_singleton.mp h]
      exact Int.le_refl _
  obtain ⟨te, Se, sse, hve, hte, _, _, _, _, _⟩ := De
  have hlast : atI us (-1) = some (.ref te) := by rw [eus, hve]; exact atI_last us0 (.ref te)
  have sb89 : But p q H6 H9 := sb68.trans sb9
  have hT9 := hT6.but hU6 sb89
  have hB9 := hB6.but sb89
  have hW9 := hW6.but sb89
  refine ⟨_, rfl, _, rfl, _, rfl, _, rfl, _, rfl, _, rfl, _, rfl, A, _, _, .ref te, rfl, rfl, SqT.of hA, hlast, te, _, _, .int e.1, rfl, rfl, SqT.of hte, atI_nat (j := 0) rfl, _, _, rfl, rfl, _, rfl, p, q, 4, rfl, hU9, by decide, by decide, fun n2 H10 n20 n24 hU10 sb10 => ?_⟩
  have hT10 := hT9.but hU9 sb10
  refine ⟨p, q, D, B, W, tabs, ys, keys, words, e.1 + 1, n2.toNat, ?_, hT10, hB9.but sb10, hW9.but sb10, hU10, by omega, by omega, by omega, fun A2 us2 more H11 hA2 hMo lmo pw2 bd2 ky2 hU11 sb11 => ?_⟩
  · rw [Int.toNat_of_nonneg n20]
    rfl
  have sb911 : But p q H9 H11 := sb10.trans sb11
  have k911 := keep_but hU9 sb911
  have hA11 := k911 _ _ hA
  have hD11 : Paired (DeedOk H11) us ds := paired_mono (fun _ _ c => c.keep k911) hDs
  have lus : us.length = ds.length := Paired.length hD11
  have lus2 : us2.length = more.length := Paired.length hMo
  refine catA_exact hA11 hA2 (by rw [sizeLine_eq]; omega) fun C H12 s12 hC => ?_
  have hD12 : Paired (DeedOk H12) us ds := paired_mono (fun _ _ c => c.keep (Keep.of s12)) hD11
  have hL12 : Paired (DeedOk H12) (us ++ us2) (ds ++ more) := paired_app hD12 (paired_mono (fun _ _ c => c.keep (Keep.of s12)) hMo)
  have hA12 := s12 _ _ hA11
  have pwL : ((ds ++ more).map (·.1)).Pairwise (· ≤ ·) := by
    rw [List.map_append, List.pairwise_append]
    refine ⟨pw, pw2, fun x hx y hy => ?_⟩
    obtain ⟨d, hd, rfl⟩ := List.mem_map.mp hx
    obtain ⟨d', hd', rfl⟩ := List.mem_map.mp hy
    have := le_e d hd
    have := (bd2 d' hd').1
    omega
  have lL : (ds ++ more).length ≤ 60 := by rw [List.length_append]; omega
  have kyL : ∀ d ∈ ds ++ more, ∀ s ∈ d.2, s.ky ∈ keys := fun d hd => (List.mem_append.mp hd).elim (ky d) (ky2 d)
  have hU12 := hU11.same s12
  have sb612 : But p q H6 H12 := sb89.trans (sb911.trans (But.of s12))
  have hT12 := hT6.but hU6 sb612
  have hB12 := hB6.but sb612
  refine ⟨_, rfl, _, rfl, .inl ⟨p, q, D, tabs, rfl, hT12.1, hT12.2.1, by have := hT12.2.2.1; omega, hU12, fun v H13 hv hU13 sb13 => ?_⟩⟩
  obtain ⟨y, hyn, htab⟩ := hT12.2.2.2 v hv
  obtain ⟨t, m, rfl, ht, wyy, m4⟩ := htab.keep (keep_but hU12 sb13)
  refine ⟨t, _, rfl, SqT.of ht, rfl, _, _, rfl, _, _, rfl, rfl, ?_⟩
  have k1213 := keep_but hU12 sb13
  have hC13 := k1213 _ _ hC
  have hA13 := k1213 _ _ hA12
  have hD13 : Paired (DeedOk H13) us ds := paired_mono (fun _ _ c => c.keep k1213) hD12
  have hL13 : Paired (DeedOk H13) (us ++ us2) (ds ++ more) := paired_mono (fun _ _ c => c.keep k1213) hL12
  have hB13 := hB12.but sb13
  have hte13 : H13 te = some (.tup [.int e.1, .ref Se]) := k1213 _ _ (s12 _ _ (k911 _ _ hte))
  -- day by day
  refine ⟨_, rfl, _, rfl, A, _, _, .ref te, rfl, rfl, SqT.of hA13, hlast, te, _, _, .int e.1, rfl, rfl, SqT.of hte13, atI_nat (j := 0) rfl, _, _, rfl, rfl, ?_⟩
  refine ⟨e.1 + 1, rfl, by omega, by omega, ?_⟩
  refine for_range (lo := 0) (n := (e.1 + 1).toNat) (fun i σ' H14 => ∃ (v9 v10 v11 v12 v13 v14 : Option V), σ' = [some (.ref a), some (.ref p), some (.ref D), some (.ref B), some (.ref W), some (.ref A), some (.ref C), some (.str y), some (.int (m : Int)), v9, v10, v11, v12, v13, v14] ∧ Urn H14 p q ∧ But p q H13 H14)
    ⟨none, none, none, none, none, none, rfl, hU13, But.refl _⟩ ?_ ?_
  · rintro i σ' H14 hi ⟨v9, v10, v11, v12, v13, v14, rfl, hU14, sb14⟩
    obtain ⟨u, eu⟩ : ∃ u : Int, u = 0 + (i : Nat) := ⟨_, rfl⟩
    have u0 : 0 ≤ u := by omega
    have u1 : u ≤ e.1 := by omega
    have later : ∀ d ∈ more, u < d.1 := fun d hd => by
      have := (bd2 d hd).1
      omega
    rw [← eu]
    have hB14 := hB13.but sb14
    refine ⟨_, rfl, B, rfl, ⟨_, SqL.of hB14.1.1⟩, for_list (K := K) (a := B) (xs := keys.map V.str) (fun j σ' H15 => ∃ (v10 v11 v12 v13 v14 : Option V), σ' = [some (.ref a), some (.ref p), some (.ref D), some (.ref B), some (.ref W), some (.ref A), some (.ref C), some (.str y), some (.int (m : Int)), some (.int u), v10, v11, v12, v13, v14] ∧ Urn H15 p q ∧ But p q H13 H15)
      ⟨v10, v11, v12, v13, v14, rfl, hU14, sb14⟩ (fun j σ' H15 _ ⟨_, _, _, _, _, _, _, sb⟩ => SqL.of (hB13.but sb).1.1) ?_ ?_⟩
    · rintro j x σ' H15 hj ⟨w10, w11, w12, w13, w14, rfl, hU15, sb15⟩
      obtain ⟨z, hzk, rfl⟩ : ∃ z ∈ keys, V.str z = x := by
        rw [List.getElem?_map] at hj
        obtain ⟨z, hz, e⟩ := Option.map_eq_some_iff.mp hj
        exact ⟨z, List.mem_of_getElem? hz, e⟩
      have wz := wk z hzk
      have k15 := keep_but hU13 sb15
      have hC15 := k15 _ _ hC13
      have hA15 := k15 _ _ hA13
      have hD15 : Paired (DeedOk H15) us ds := paired_mono (fun _ _ c => c.keep k15) hD13
      have hL15 : Paired (DeedOk H15) (us ++ us2) (ds ++ more) := paired_mono (fun _ _ c => c.keep k15) hL13
      refine ⟨_, rfl, _, rfl, _, rfl, _, rfl, rfl, rfl, C, some u, y, z, _, _, rfl, hC15, hL15, lL, fun TL cL qL H16 hTL hPL canL txL lqL s16 => ?_⟩
      refine ⟨_, rfl, _, rfl, _, rfl, _, rfl, rfl, rfl, A, some u, y, z, us, ds, rfl, s16 _ _ hA15, paired_mono (fun _ _ c => c.keep (Keep.of s16)) hD15, by omega, fun T2 c2 q2 H17 hT2 hP2 can2 tx2 lq2 s17 => ?_⟩
      obtain ⟨dA, a1, a2, a3, a4, a5, a6⟩ := line_repr (K := K) hP2 (by omega)
      have hTL17 := s17 _ _ hTL
      have hPL17 := pts_keep (Keep.of s17) hPL
      obtain ⟨dB, b1, b2, b3, b4, b5, b6⟩ := line_repr (K := K) hPL17 (by omega)
      have sk : q2.map key = qL.map key := same_keys can2 canL fun dd => by rw [tx2 dd, txL dd, sel_app pwL pw later]
      refine ⟨.ref T2, _, rfl, .tup (SqT.of hT2) a1, a2, a3, a4, a5, _, rfl, .ref TL, _, rfl, .tup (SqT.of hTL17) b1, b2, b3, b4, b5, rfl, _, rfl, ff2 (by rw [a6, b6, sk]; simp) ?_⟩
      have s1517 := s16.trans s17
      have hU17 := hU15.same s1517
      refine ⟨_, rfl, _, rfl, ⟨by decide, by decide, by decide, by decide, by decide⟩, fun LG nLG => ?_⟩
      have nLG' := hU17.nep nLG
      have gG : Same H17 _ := same_new nLG (.lst (rgV 0 14))
      refine ⟨p, q, LG, _, rfl, upd_same, nLG'.1, nLG'.2, by rw [rgV_length]; decide, hU17.same gG, fun LO zo H18 nLO hLO mem lz hU18 sb18 => ⟨4, rfl, LO, zo, rfl, SqL.of hLO, fun LY nLY => ⟨LY, rfl, ⟨_, SqL.of upd_same⟩, ?_⟩⟩⟩
      have gY : Same H18 _ := same_new nLY (.lst (cutV zo none (some 4)))
      have nLY' := hU18.nep nLY
      obtain ⟨H19, eH19⟩ : ∃ H19, H19 = upd H18 LY (.lst (cutV zo none (some 4))) := ⟨_, rfl⟩
      have hLY : H19 LY = some (.lst (cutV zo none (some 4))) := eH19 ▸ upd_same
      rw [← eH19] at gY ⊢
      have hU19 := hU18.same gY
      have sb1719 : But p q H17 H19 := (But.of gG).trans (sb18.trans (But.of gY))
      have sb1519 : But p q H15 H19 := (But.of s1517).trans sb1719
      have k19 := keep_but hU15 sb1519
      have k1719 := keep_but hU17 sb1719
      have hC19 := k19 _ _ hC15
      have hA19 := k19 _ _ hA15
      have hD19 : Paired (DeedOk H19) us ds := paired_mono (fun _ _ c => c.keep k19) hD15
      have hL19 : Paired (DeedOk H19) (us ++ us2) (ds ++ more) := paired_mono (fun _ _ c => c.keep k19) hL15
      have hTL19 := k1719 _ _ hTL17
      have hPL19 := pts_keep k1719 hPL17
      refine for_list (K := K) (a := LY) (xs := cutV zo none (some 4)) (fun l σ' H20 => ∃ (v12 v13 v14 : Option V), σ' = [some (.ref a), some (.ref p), some (.ref D), some (.ref B), some (.ref W), some (.ref A), some (.ref C), some (.str y), some (.int (m : Int)), some (.int u), some (.str z), some (.ref TL), v12, v13, v14] ∧ Same H19 H20)
        ⟨w12, w13, w14, rfl, Same.refl _⟩ (fun l σ' H20 _ ⟨_, _, _, _, s20⟩ => SqL.of (s20 _ _ hLY)) ?_ ?_
      · rintro l x σ' H20 hl ⟨o12, o13, o14, rfl, s20⟩
        obtain ⟨dd, rfl, dd1⟩ : ∃ dd : Int, x = .int dd ∧ dd ≤ 10 ^ 12 := by
          have hm := mem x (cut_mem (List.mem_of_getElem? hl))
          obtain ⟨k, hk, rfl⟩ := List.mem_map.mp hm
          have := List.mem_range.mp hk
          exact ⟨_, rfl, by omega⟩
        have kk20 := Keep.of s20
        refine ⟨_, rfl, _, rfl, _, rfl, _, rfl, rfl, rfl, C, some u, y, dd, _, _, keys, rfl, s20 _ _ hC19, paired_mono (fun _ _ c => c.keep kk20) hL19, lL, dd1, by omega, kyL, fun T1 ob w1 z1 H21 hT1 od hR1 so1 nd1 lz1 mz1 s21 => ?_⟩
        obtain ⟨n1', n2'⟩ := rows_nodup (y := y) (day := dd) (ss := allS ((ds ++ more).filter fun d => known (some u) d.1)) z1 nd1
        have hPr := pairs_rows hR1
        have lxs : w1.length = ((z1.filterMap (outR y dd (allS ((ds ++ more).filter fun d => known (some u) d.1)))).map rowK).length := Paired.length hPr
        have lfm : (z1.filterMap (outR y dd (allS ((ds ++ more).filter fun d => known (some u) d.1)))).length ≤ 9 := Nat.le_trans (List.length_filterMap_le ..) lz1
        refine ⟨_, rfl, T1, ob, w1, _, rfl, hT1, od, hPr, by rw [List.length_map, sizeLine_eq]; omega, fun HD nHD => ?_⟩
        rw [merge_new _ [] n1' (fun k _ h => (nomatch h)), List.nil_append]
        obtain ⟨kvs, ekv⟩ : ∃ kvs, kvs = (z1.filterMap (outR y dd (allS ((ds ++ more).filter fun d => known (some u) d.1)))).map rowK := ⟨_, rfl⟩
        rw [← ekv]
        rw [← ekv] at lxs
        have gH : Same H21 _ := same_new nHD (.dK kvs)
        refine ⟨_, rfl, HD, kvs, rfl, upd_same, _, rfl, T1, w1, rfl, .inr (.inl (.inr ⟨ob, gH _ _ hT1⟩)), rfl, _, rfl, ff2 (by rw [lxs]; simp) ?_⟩
        have s20H := s21.trans gH
        have s19H := s20.trans s20H
        have kH := Keep.of s19H
        refine ⟨_, rfl, _, rfl, _, rfl, _, rfl, rfl, rfl, A, some u, y, dd, us, ds, keys, rfl, s19H _ _ hA19, paired_mono (fun _ _ c => c.keep kH) hD19, by omega, dd1, by omega, ky, fun T2 ob2 w2 z2 H22 hT2' od2 hR2 so2 nd2 lz2 mz2 s22 => ?_⟩
        rw [known_app later] at hR1 mz1
        have ez : z2 = z1 := same_zs so2 nd2 mz2 so1 nd1 mz1
        have hD22 : Paired (DeedOk H22) us ds := paired_mono (fun _ _ c => (c.keep kH).keep (Keep.of s22)) hD19
        rw [known_app later] at lfm
        obtain ⟨D1, p1, p2, p3, p4, p5, p6⟩ := rows_repr (K := K) (.inl (.inr ⟨ob2, hT2'⟩)) hR2 (rows_wd2 hD22) (by rw [ez]; omega)
        have sH22 := gH.trans s22
        obtain ⟨D2, q1, q2', q3, q4, q5, q6⟩ := rows_repr (K := K) (.inl (.inr ⟨ob, sH22 _ _ hT1⟩)) (paired_mono (fun _ _ c => c.keep (Keep.of sH22)) hR1) (rows_wd2 hD22) (by omega)
        refine ⟨.ref T2, D1, rfl, p1, p2, p3, p4, p5, _, rfl, .ref T1, D2, rfl, q1, q2', q3, q4, q5, rfl, _, rfl, ff2 (by rw [p6, q6, ez]; simp) ?_⟩
        refine ⟨_, rfl, _, rfl, _, rfl, (by rw [sizeLine_eq]; simp), fun tp ntp => ?_⟩
        have gp : Same H22 _ := same_new ntp (.tup [.str y, .str z])
        have s22p := s22.trans gp
        have s19F := s19H.trans s22p
        have kF := Keep.of s19F
        refine ⟨_, rfl, _, rfl, _, rfl, _, rfl, C, tp, HD, TL, dd, u, y, z, us ++ us2, ds ++ more, kvs, cL, qL, rfl, s19F _ _ hC19, paired_mono (fun _ _ c => c.keep kF) hL19, lL, pwL, upd_same, wyy, wz, dd1, by omega, s22p _ _ upd_same, ?_, s19F _ _ hTL19, pts_keep kF hPL19, canL, by omega, txL, fun H23 s23 => ⟨_, rfl, ff2 rfl ⟨_, _, _, rfl, s19F.trans s23⟩⟩⟩
        rw [ekv, val_rows z z1 nd1, known_app later]
        unfold outR
        cases hlo : lastOf y dd (allS (ds.filter fun d => known (some u) d.1)) z with
        | none =>
          rw [if_neg fun h => by
            have := (mz1 z).mp h
            rw [hlo] at this
            cases this]
          rfl
        | some st =>
          rw [if_pos ((mz1 z).mpr (by rw [hlo]; rfl))]
          show Option.map _ (if st.wv = .non then none else some (z, st)) = (if st.wv = .non then none else some st.wv)
          by_cases c : st.wv = .non
          · rw [if_pos c, if_pos c]
            rfl
          · rw [if_neg c, if_neg c]
            rfl
      · rintro σ' H20 ⟨o12, o13, o14, rfl, s20⟩
        exact ⟨_, _, _, _, _, rfl, hU19.same s20, sb15.trans (sb1519.trans (But.of s20))⟩
    · rintro σ' H15 ⟨w10, w11, w12, w13, w14, rfl, hU15, sb15⟩
      exact ⟨_, _, _, _, _, _, rfl, hU15, sb15⟩
  · rintro σ' H14 ⟨v9, v10, v11, v12, v13, v14, rfl, hU14, sb14⟩
    exact q0 H14
end
end Q20
namespace Q20
open PySem L2 L2.Gd L2.SetL Ln
set_option maxHeartbeats 64000000 in
theorem all_mk {l : PySem.W.OpenLaw} {w : World} {K : PySem.W.Frag} {h : Heap} {mg : Str → Option Value} {fa : Addr} {f0 f1 f2 f3 f4 f5 f6 f7 f8 f9 f10 f11 f12 f13 f14 f15 f16 f17 f18 f19 f20 f21 f22 f23 f24 f25 f26 f27 : Addr} (X : K.In h) (G : h.Ns mainGlobals mg) (hfa : mg "law" = some (.ref fa))
    {pd0 qn0 : Option Addr} {ql0 : Array (Option Value)} {qc0 qv0 qd0 qm0 qe0 qt0 : Value}
    {pd1 qn1 : Option Addr} {ql1 : Array (Option Value)} {qc1 qv1 qd1 qm1 qe1 qt1 : Value}
    {pd2 qn2 : Option Addr} {ql2 : Array (Option Value)} {qc2 qv2 qd2 qm2 qe2 qt2 : Value}
    {pd3 qn3 : Option Addr} {ql3 : Array (Option Value)} {qc3 qv3 qd3 qm3 qe3 qt3 : Value}
    {pd4 qn4 : Option Addr} {ql4 : Array (Option Value)} {qc4 qv4 qd4 qm4 qe4 qt4 : Value}
    {pd5 qn5 : Option Addr} {ql5 : Array (Option Value)} {qc5 qv5 qd5 qm5 qe5 qt5 : Value}
    {pd6 qn6 : Option Addr} {ql6 : Array (Option Value)} {qc6 qv6 qd6 qm6 qe6 qt6 : Value}
    {pd7 qn7 : Option Addr} {ql7 : Array (Option Value)} {qc7 qv7 qd7 qm7 qe7 qt7 : Value}
    {pd8 qn8 : Option Addr} {ql8 : Array (Option Value)} {qc8 qv8 qd8 qm8 qe8 qt8 : Value}
    {pd9 qn9 : Option Addr} {ql9 : Array (Option Value)} {qc9 qv9 qd9 qm9 qe9 qt9 : Value}
    {pd10 qn10 : Option Addr} {ql10 : Array (Option Value)} {qc10 qv10 qd10 qm10 qe10 qt10 : Value}
    {pd11 qn11 : Option Addr} {ql11 : Array (Option Value)} {qc11 qv11 qd11 qm11 qe11 qt11 : Value}
    {pd12 qn12 : Option Addr} {ql12 : Array (Option Value)} {qc12 qv12 qd12 qm12 qe12 qt12 : Value}
    {pd13 qn13 : Option Addr} {ql13 : Array (Option Value)} {qc13 qd13 qm13 qe13 qt13 : Value}
    {kd13 : Addr} {kt13_low : Tok}
    {pd14 qn14 : Option Addr} {ql14 : Array (Option Value)} {qc14 qv14 qd14 qm14 qe14 qt14 : Value}
    {pd15 qn15 : Option Addr} {ql15 : Array (Option Value)} {qc15 qv15 qd15 qm15 qe15 qt15 : Value}
    {pd16 qn16 : Option Addr} {ql16 : Array (Option Value)} {qc16 qv16 qd16 qm16 qe16 qt16 : Value}
    {pd17 qn17 : Option Addr} {ql17 : Array (Option Value)} {qc17 qv17 qd17 qm17 qe17 qt17 : Value}
    {pd18 qn18 : Option Addr} {ql18 : Array (Option Value)} {qc18 qd18 qm18 qe18 qt18 : Value}
    {kd18 : Addr}
    {pd19 qn19 : Option Addr} {ql19 : Array (Option Value)} {qc19 qv19 qd19 qm19 qe19 qt19 : Value}
    {pd20 qn20 : Option Addr} {ql20 : Array (Option Value)} {qc20 qv20 qd20 qm20 qe20 qt20 : Value}
    {pd21 qn21 : Option Addr} {ql21 : Array (Option Value)} {qc21 qv21 qd21 qm21 qe21 qt21 : Value}
    {pd22 qn22 : Option Addr} {ql22 : Array (Option Value)} {qc22 qd22 qm22 qe22 qt22 : Value}
    {kd22 : Addr}
    {pd23 qn23 : Option Addr} {ql23 : Array (Option Value)} {qc23 qv23 qd23 qm23 qe23 qt23 : Value}
    {pd24 qn24 : Option Addr} {ql24 : Array (Option Value)} {qc24 qv24 qd24 qm24 qe24 qt24 : Value}
    {pd25 qn25 : Option Addr} {ql25 : Array (Option Value)} {qc25 qd25 qm25 qe25 qt25 : Value}
    {kd25 : Addr}
    {pd26 qn26 : Option Addr} {ql26 : Array (Option Value)} {qc26 qv26 qd26 qm26 qe26 qt26 : Value}
    {pd27 qn27 : Option Addr} {ql27 : Array (Option Value)} {qc27 qv27 qd27 qm27 qe27 qt27 : Value}
    {ct_FIRST : Tok}
    (p0 : PySem.W.nsIn K mainGlobals "_law_start" = some (some (.ref f0)))
    (q0 : K.lookup f0 = some ⟨qc0, pd0, .func (PySem.W.fnOf "_law_start" "_law_start" (defArgs sStart) (defBody sStart) (defScope sStart) .none qv0 qd0 qm0 qn0 qe0 qt0), ql0⟩)
    (r0 : PySem.W.codeIn K qe0 "_law_start" = true)
    (s0 : PySem.W.keepIn K (.ref f0) = true)
    (p1 : PySem.W.nsIn K mainGlobals "_law_take" = some (some (.ref f1)))
    (q1 : K.lookup f1 = some ⟨qc1, pd1, .func (PySem.W.fnOf "_law_take" "_law_take" (defArgs sTake) (defBody sTake) (defScope sTake) .none qv1 qd1 qm1 qn1 qe1 qt1), ql1⟩)
    (r1 : PySem.W.codeIn K qe1 "_law_take" = true)
    (s1 : PySem.W.keepIn K (.ref f1) = true)
    (p2 : PySem.W.nsIn K mainGlobals "_law_of" = some (some (.ref f2)))
    (q2 : K.lookup f2 = some ⟨qc2, pd2, .func (PySem.W.fnOf "_law_of" "_law_of" (defArgs sOf) (defBody sOf) (defScope sOf) .none qv2 qd2 qm2 qn2 qe2 qt2), ql2⟩)
    (r2 : PySem.W.codeIn K qe2 "_law_of" = true)
    (s2 : PySem.W.keepIn K (.ref f2) = true)
    (p3 : PySem.W.nsIn K mainGlobals "_law_words" = some (some (.ref f3)))
    (q3 : K.lookup f3 = some ⟨qc3, pd3, .func (PySem.W.fnOf "_law_words" "_law_words" (defArgs sWords) (defBody sWords) (defScope sWords) .none qv3 qd3 qm3 qn3 qe3 qt3), ql3⟩)
    (r3 : PySem.W.codeIn K qe3 "_law_words" = true)
    (s3 : PySem.W.keepIn K (.ref f3) = true)
    (p4 : PySem.W.nsIn K mainGlobals "_law_order" = some (some (.ref f4)))
    (q4 : K.lookup f4 = some ⟨qc4, pd4, .func (PySem.W.fnOf "_law_order" "_law_order" (defArgs sOrder) (defBody sOrder) (defScope sOrder) .none qv4 qd4 qm4 qn4 qe4 qt4), ql4⟩)
    (r4 : PySem.W.codeIn K qe4 "_law_order" = true)
    (s4 : PySem.W.keepIn K (.ref f4) = true)
    (p5 : PySem.W.nsIn K mainGlobals "_law_near" = some (some (.ref f5)))
    (q5 : K.lookup f5 = some ⟨qc5, pd5, .func (PySem.W.fnOf "_law_near" "_law_near" (defArgs sNear) (defBody sNear) (defScope sNear) .none qv5 qd5 qm5 qn5 qe5 qt5), ql5⟩)
    (r5 : PySem.W.codeIn K qe5 "_law_near" = true)
    (s5 : PySem.W.keepIn K (.ref f5) = true)
    (p6 : PySem.W.nsIn K mainGlobals "_law_parts" = some (some (.ref f6)))
    (q6 : K.lookup f6 = some ⟨qc6, pd6, .func (PySem.W.fnOf "_law_parts" "_law_parts" (defArgs sParts) (defBody sParts) (defScope sParts) .none qv6 qd6 qm6 qn6 qe6 qt6), ql6⟩)
    (r6 : PySem.W.codeIn K qe6 "_law_parts" = true)
    (s6 : PySem.W.keepIn K (.ref f6) = true)
    (p7 : PySem.W.nsIn K mainGlobals "_law_covers" = some (some (.ref f7)))
    (q7 : K.lookup f7 = some ⟨qc7, pd7, .func (PySem.W.fnOf "_law_covers" "_law_covers" (defArgs sCovers) (defBody sCovers) (defScope sCovers) .none qv7 qd7 qm7 qn7 qe7 qt7), ql7⟩)
    (r7 : PySem.W.codeIn K qe7 "_law_covers" = true)
    (s7 : PySem.W.keepIn K (.ref f7) = true)
    (p8 : PySem.W.nsIn K mainGlobals "_law_told" = some (some (.ref f8)))
    (q8 : K.lookup f8 = some ⟨qc8, pd8, .func (PySem.W.fnOf "_law_told" "_law_told" (defArgs sTold) (defBody sTold) (defScope sTold) .none qv8 qd8 qm8 qn8 qe8 qt8), ql8⟩)
    (r8 : PySem.W.codeIn K qe8 "_law_told" = true)
    (s8 : PySem.W.keepIn K (.ref f8) = true)
    (p9 : PySem.W.nsIn K mainGlobals "_law_last" = some (some (.ref f9)))
    (q9 : K.lookup f9 = some ⟨qc9, pd9, .func (PySem.W.fnOf "_law_last" "_law_last" (defArgs sLast) (defBody sLast) (defScope sLast) .none qv9 qd9 qm9 qn9 qe9 qt9), ql9⟩)
    (r9 : PySem.W.codeIn K qe9 "_law_last" = true)
    (s9 : PySem.W.keepIn K (.ref f9) = true)
    (p10 : PySem.W.nsIn K mainGlobals "earlier_end" = some (some (.ref f10)))
    (q10 : K.lookup f10 = some ⟨qc10, pd10, .func (PySem.W.fnOf "earlier_end" "earlier_end" (defArgs sEarly) (defBody sEarly) (defScope sEarly) .none qv10 qd10 qm10 qn10 qe10 qt10), ql10⟩)
    (r10 : PySem.W.codeIn K qe10 "earlier_end" = true)
    (s10 : PySem.W.keepIn K (.ref f10) = true)
    (p11 : PySem.W.nsIn K mainGlobals "clipped" = some (some (.ref f11)))
    (q11 : K.lookup f11 = some ⟨qc11, pd11, .func (PySem.W.fnOf "clipped" "clipped" (defArgs sClip) (defBody sClip) (defScope sClip) .none qv11 qd11 qm11 qn11 qe11 qt11), ql11⟩)
    (r11 : PySem.W.codeIn K qe11 "clipped" = true)
    (s11 : PySem.W.keepIn K (.ref f11) = true)
    (p12 : PySem.W.nsIn K mainGlobals "joined" = some (some (.ref f12)))
    (q12 : K.lookup f12 = some ⟨qc12, pd12, .func (PySem.W.fnOf "joined" "joined" (defArgs sJoin) (defBody sJoin) (defScope sJoin) .none qv12 qd12 qm12 qn12 qe12 qt12), ql12⟩)
    (r12 : PySem.W.codeIn K qe12 "joined" = true)
    (s12 : PySem.W.keepIn K (.ref f12) = true)
    (p13 : PySem.W.nsIn K mainGlobals "painted" = some (some (.ref f13)))
    (q13 : K.lookup f13 = some ⟨qc13, pd13, .func (PySem.W.fnOf "painted" "painted" (defArgs sPaint) (defBody sPaint) (defScope sPaint) .none (.ref kd13) qd13 qm13 qn13 qe13 qt13), ql13⟩)
    (r13 : PySem.W.codeIn K qe13 "painted" = true)
    (s13 : PySem.W.keepIn K (.ref f13) = true)
    (e13_low : PySem.W.nsIn K kd13 "low" = some (some (.int 0 kt13_low)))
    (e13_high : PySem.W.nsIn K kd13 "high" = some (some .none))
    (p14 : PySem.W.nsIn K mainGlobals "span_of" = some (some (.ref f14)))
    (q14 : K.lookup f14 = some ⟨qc14, pd14, .func (PySem.W.fnOf "span_of" "span_of" (defArgs sSpanOf) (defBody sSpanOf) (defScope sSpanOf) .none qv14 qd14 qm14 qn14 qe14 qt14), ql14⟩)
    (r14 : PySem.W.codeIn K qe14 "span_of" = true)
    (s14 : PySem.W.keepIn K (.ref f14) = true)
    (p15 : PySem.W.nsIn K mainGlobals "worths_of" = some (some (.ref f15)))
    (q15 : K.lookup f15 = some ⟨qc15, pd15, .func (PySem.W.fnOf "worths_of" "worths_of" (defArgs sWorths) (defBody sWorths) (defScope sWorths) .none qv15 qd15 qm15 qn15 qe15 qt15), ql15⟩)
    (r15 : PySem.W.codeIn K qe15 "worths_of" = true)
    (s15 : PySem.W.keepIn K (.ref f15) = true)
    (p16 : PySem.W.nsIn K mainGlobals "known_deeds" = some (some (.ref f16)))
    (q16 : K.lookup f16 = some ⟨qc16, pd16, .func (PySem.W.fnOf "known_deeds" "known_deeds" (defArgs sKDeeds) (defBody sKDeeds) (defScope sKDeeds) .none qv16 qd16 qm16 qn16 qe16 qt16), ql16⟩)
    (r16 : PySem.W.codeIn K qe16 "known_deeds" = true)
    (s16 : PySem.W.keepIn K (.ref f16) = true)
    (p17 : PySem.W.nsIn K mainGlobals "known_steps" = some (some (.ref f17)))
    (q17 : K.lookup f17 = some ⟨qc17, pd17, .func (PySem.W.fnOf "known_steps" "known_steps" (defArgs sKSteps) (defBody sKSteps) (defScope sKSteps) .none qv17 qd17 qm17 qn17 qe17 qt17), ql17⟩)
    (r17 : PySem.W.codeIn K qe17 "known_steps" = true)
    (s17 : PySem.W.keepIn K (.ref f17) = true)
    (p18 : PySem.W.nsIn K mainGlobals "line_of" = some (some (.ref f18)))
    (q18 : K.lookup f18 = some ⟨qc18, pd18, .func (PySem.W.fnOf "line_of" "line_of" (defArgs sLineOf) (defBody sLineOf) (defScope sLineOf) .none (.ref kd18) qd18 qm18 qn18 qe18 qt18), ql18⟩)
    (r18 : PySem.W.codeIn K qe18 "line_of" = true)
    (s18 : PySem.W.keepIn K (.ref f18) = true)
    (e18_known : PySem.W.nsIn K kd18 "known" = some (some .none))
    (p19 : PySem.W.nsIn K mainGlobals "in_span" = some (some (.ref f19)))
    (q19 : K.lookup f19 = some ⟨qc19, pd19, .func (PySem.W.fnOf "in_span" "in_span" (defArgs sIn) (defBody sIn) (defScope sIn) .none qv19 qd19 qm19 qn19 qe19 qt19), ql19⟩)
    (r19 : PySem.W.codeIn K qe19 "in_span" = true)
    (s19 : PySem.W.keepIn K (.ref f19) = true)
    (p20 : PySem.W.nsIn K mainGlobals "covers" = some (some (.ref f20)))
    (q20 : K.lookup f20 = some ⟨qc20, pd20, .func (PySem.W.fnOf "covers" "covers" (defArgs sCov) (defBody sCov) (defScope sCov) .none qv20 qd20 qm20 qn20 qe20 qt20), ql20⟩)
    (r20 : PySem.W.codeIn K qe20 "covers" = true)
    (s20 : PySem.W.keepIn K (.ref f20) = true)
    (p21 : PySem.W.nsIn K mainGlobals "known_line" = some (some (.ref f21)))
    (q21 : K.lookup f21 = some ⟨qc21, pd21, .func (PySem.W.fnOf "known_line" "known_line" (defArgs sKLine) (defBody sKLine) (defScope sKLine) .none qv21 qd21 qm21 qn21 qe21 qt21), ql21⟩)
    (r21 : PySem.W.codeIn K qe21 "known_line" = true)
    (s21 : PySem.W.keepIn K (.ref f21) = true)
    (p22 : PySem.W.nsIn K mainGlobals "told_by" = some (some (.ref f22)))
    (q22 : K.lookup f22 = some ⟨qc22, pd22, .func (PySem.W.fnOf "told_by" "told_by" (defArgs sToldBy) (defBody sToldBy) (defScope sToldBy) .none (.ref kd22) qd22 qm22 qn22 qe22 qt22), ql22⟩)
    (r22 : PySem.W.codeIn K qe22 "told_by" = true)
    (s22 : PySem.W.keepIn K (.ref f22) = true)
    (e22_known : PySem.W.nsIn K kd22 "known" = some (some .none))
    (p23 : PySem.W.nsIn K mainGlobals "count_begun" = some (some (.ref f23)))
    (q23 : K.lookup f23 = some ⟨qc23, pd23, .func (PySem.W.fnOf "count_begun" "count_begun" (defArgs sCount) (defBody sCount) (defScope sCount) .none qv23 qd23 qm23 qn23 qe23 qt23), ql23⟩)
    (r23 : PySem.W.codeIn K qe23 "count_begun" = true)
    (s23 : PySem.W.keepIn K (.ref f23) = true)
    (p24 : PySem.W.nsIn K mainGlobals "found" = some (some (.ref f24)))
    (q24 : K.lookup f24 = some ⟨qc24, pd24, .func (PySem.W.fnOf "found" "found" (defArgs sFound) (defBody sFound) (defScope sFound) .none qv24 qd24 qm24 qn24 qe24 qt24), ql24⟩)
    (r24 : PySem.W.codeIn K qe24 "found" = true)
    (s24 : PySem.W.keepIn K (.ref f24) = true)
    (p25 : PySem.W.nsIn K mainGlobals "rows_at" = some (some (.ref f25)))
    (q25 : K.lookup f25 = some ⟨qc25, pd25, .func (PySem.W.fnOf "rows_at" "rows_at" (defArgs sRows) (defBody sRows) (defScope sRows) .none (.ref kd25) qd25 qm25 qn25 qe25 qt25), ql25⟩)
    (r25 : PySem.W.codeIn K qe25 "rows_at" = true)
    (s25 : PySem.W.keepIn K (.ref f25) = true)
    (e25_known : PySem.W.nsIn K kd25 "known" = some (some .none))
    (p26 : PySem.W.nsIn K mainGlobals "_law_cell_right" = some (some (.ref f26)))
    (q26 : K.lookup f26 = some ⟨qc26, pd26, .func (PySem.W.fnOf "_law_cell_right" "_law_cell_right" (defArgs sCell) (defBody sCell) (defScope sCell) .none qv26 qd26 qm26 qn26 qe26 qt26), ql26⟩)
    (r26 : PySem.W.codeIn K qe26 "_law_cell_right" = true)
    (s26 : PySem.W.keepIn K (.ref f26) = true)
    (p27 : PySem.W.nsIn K mainGlobals "law" = some (some (.ref f27)))
    (q27 : K.lookup f27 = some ⟨qc27, pd27, .func (PySem.W.fnOf "law" "law" (defArgs sLaw) (defBody sLaw) (defScope sLaw) .none qv27 qd27 qm27 qn27 qe27 qt27), ql27⟩)
    (r27 : PySem.W.codeIn K qe27 "law" = true)
    (s27 : PySem.W.keepIn K (.ref f27) = true)
    (g_len : PySem.W.nsIn K mainGlobals "len" = some none)
    (g_abs : PySem.W.nsIn K mainGlobals "abs" = some none)
    (g_range : PySem.W.nsIn K mainGlobals "range" = some none)
    (g_tuple : PySem.W.nsIn K mainGlobals "tuple" = some none)
    (g_list : PySem.W.nsIn K mainGlobals "list" = some none)
    (g_sorted : PySem.W.nsIn K mainGlobals "sorted" = some none)
    (g_repr : PySem.W.nsIn K mainGlobals "repr" = some none)
    (g_min : PySem.W.nsIn K mainGlobals "min" = some none)
    (g_max : PySem.W.nsIn K mainGlobals "max" = some none)
    (g_enumerate : PySem.W.nsIn K mainGlobals "enumerate" = some none)
    (g_dict : PySem.W.nsIn K mainGlobals "dict" = some none)
    (c_FIRST : PySem.W.nsIn K mainGlobals "FIRST" = some (some (.int 0 ct_FIRST)))
    : ∃ fd : FuncData, (∀ (s : Shared) (v : Value), BindsTo s fd ⟨[v], []⟩ [("_law_script", v)]) ∧ ∀ base : Heap, K.In base → base.Ns mainGlobals mg → FnG l.prog w K mg base CX0 6 fa fd ["_law_script"] (spLaw K) := by
  have e := hfa.symm.trans (PySem.W.mg_of X G p27)
  cases e
  have m0 := PySem.W.mg_of X G p0
  have F0 := fun_mk (st := sStart) q0 r0 s0
  have b0 := F0.binds (ps := ["_law_script"]) fun _ _ _ _ _ _ us hl => match us, hl with | [_], _ => rfl
  have m1 := PySem.W.mg_of X G p1
  have F1 := fun_mk (st := sTake) q1 r1 s1
  have b1 := F1.binds (ps := ["_law_urn", "_law_many"]) fun _ _ _ _ _ _ us hl => match us, hl with | [_, _], _ => rfl
  have m2 := PySem.W.mg_of X G p2
  have F2 := fun_mk (st := sOf) q2 r2 s2
  have b2 := F2.binds (ps := ["_law_urn", "_law_some"]) fun _ _ _ _ _ _ us hl => match us, hl with | [_, _], _ => rfl
  have m3 := PySem.W.mg_of X G p3
  have F3 := fun_mk (st := sWords) q3 r3 s3
  have b3 := F3.binds (ps := ["_law_urn", "_law_many"]) fun _ _ _ _ _ _ us hl => match us, hl with | [_, _], _ => rfl
  have m4 := PySem.W.mg_of X G p4
  have F4 := fun_mk (st := sOrder) q4 r4 s4
  have b4 := F4.binds (ps := ["_law_urn", "_law_some"]) fun _ _ _ _ _ _ us hl => match us, hl with | [_, _], _ => rfl
  have m5 := PySem.W.mg_of X G p5
  have F5 := fun_mk (st := sNear) q5 r5 s5
  have b5 := F5.binds (ps := ["_law_urn", "_law_tables", "_law_keys", "_law_words_here", "_law_day", "_law_many"]) fun _ _ _ _ _ _ us hl => match us, hl with | [_, _, _, _, _, _], _ => rfl
  have m6 := PySem.W.mg_of X G p6
  have F6 := fun_mk (st := sParts) q6 r6 s6
  have b6 := F6.binds (ps := ["_law_step"]) fun _ _ _ _ _ _ us hl => match us, hl with | [_], _ => rfl
  have m7 := PySem.W.mg_of X G p7
  have F7 := fun_mk (st := sCovers) q7 r7 s7
  have b7 := F7.binds (ps := ["_law_low", "_law_high", "_law_day"]) fun _ _ _ _ _ _ us hl => match us, hl with | [_, _, _], _ => rfl
  have m8 := PySem.W.mg_of X G p8
  have F8 := fun_mk (st := sTold) q8 r8 s8
  have b8 := F8.binds (ps := ["_law_deeds", "_law_place", "_law_until"]) fun _ _ _ _ _ _ us hl => match us, hl with | [_, _, _], _ => rfl
  have m9 := PySem.W.mg_of X G p9
  have F9 := fun_mk (st := sLast) q9 r9 s9
  have b9 := F9.binds (ps := ["_law_rows", "_law_day"]) fun _ _ _ _ _ _ us hl => match us, hl with | [_, _], _ => rfl
  have m10 := PySem.W.mg_of X G p10
  have F10 := fun_mk (st := sEarly) q10 r10 s10
  have b10 := F10.binds (ps := ["one", "other"]) fun _ _ _ _ _ _ us hl => match us, hl with | [_, _], _ => rfl
  have m11 := PySem.W.mg_of X G p11
  have F11 := fun_mk (st := sClip) q11 r11 s11
  have b11 := F11.binds (ps := ["line", "low", "high"]) fun _ _ _ _ _ _ us hl => match us, hl with | [_, _, _], _ => rfl
  have m12 := PySem.W.mg_of X G p12
  have F12 := fun_mk (st := sJoin) q12 r12 s12
  have b12 := F12.binds (ps := ["pieces"]) fun _ _ _ _ _ _ us hl => match us, hl with | [_], _ => rfl
  have m13 := PySem.W.mg_of X G p13
  have F13 : FunD K "painted" "painted" (defArgs sPaint) (defBody sPaint) (defScope sPaint) [] [("low", .int 0), ("high", .non)] f13 _ := ⟨⟨_, _, .none, .ref kd13, _, _, _, _, _, _, rfl, q13, r13, .inl ⟨rfl, rfl⟩, .inr ⟨kd13, rfl, fun z hz => by simp only [List.mem_cons, List.mem_nil_iff, or_false] at hz; rcases hz with rfl | rfl; exact ⟨_, e13_low, _, rfl⟩; exact ⟨_, e13_high, rfl⟩⟩⟩, s13⟩
  have m14 := PySem.W.mg_of X G p14
  have F14 := fun_mk (st := sSpanOf) q14 r14 s14
  have b14 := F14.binds (ps := ["step"]) fun _ _ _ _ _ _ us hl => match us, hl with | [_], _ => rfl
  have m15 := PySem.W.mg_of X G p15
  have F15 := fun_mk (st := sWorths) q15 r15 s15
  have b15 := F15.binds (ps := ["step"]) fun _ _ _ _ _ _ us hl => match us, hl with | [_], _ => rfl
  have m16 := PySem.W.mg_of X G p16
  have F16 := fun_mk (st := sKDeeds) q16 r16 s16
  have b16 := F16.binds (ps := ["deeds", "known"]) fun _ _ _ _ _ _ us hl => match us, hl with | [_, _], _ => rfl
  have m17 := PySem.W.mg_of X G p17
  have F17 := fun_mk (st := sKSteps) q17 r17 s17
  have b17 := F17.binds (ps := ["deeds", "table", "key", "known"]) fun _ _ _ _ _ _ us hl => match us, hl with | [_, _, _, _], _ => rfl
  have m18 := PySem.W.mg_of X G p18
  have F18 : FunD K "line_of" "line_of" (defArgs sLineOf) (defBody sLineOf) (defScope sLineOf) [] [("known", .non)] f18 _ := ⟨⟨_, _, .none, .ref kd18, _, _, _, _, _, _, rfl, q18, r18, .inl ⟨rfl, rfl⟩, .inr ⟨kd18, rfl, fun z hz => by simp only [List.mem_cons, List.mem_nil_iff, or_false] at hz; rcases hz with rfl; exact ⟨_, e18_known, rfl⟩⟩⟩, s18⟩
  have m19 := PySem.W.mg_of X G p19
  have F19 := fun_mk (st := sIn) q19 r19 s19
  have b19 := F19.binds (ps := ["low", "high", "day"]) fun _ _ _ _ _ _ us hl => match us, hl with | [_, _, _], _ => rfl
  have m20 := PySem.W.mg_of X G p20
  have F20 := fun_mk (st := sCov) q20 r20 s20
  have b20 := F20.binds (ps := ["step", "day"]) fun _ _ _ _ _ _ us hl => match us, hl with | [_, _], _ => rfl
  have m21 := PySem.W.mg_of X G p21
  have F21 := fun_mk (st := sKLine) q21 r21 s21
  have b21 := F21.binds (ps := ["deeds", "table", "key", "day"]) fun _ _ _ _ _ _ us hl => match us, hl with | [_, _, _, _], _ => rfl
  have m22 := PySem.W.mg_of X G p22
  have F22 : FunD K "told_by" "told_by" (defArgs sToldBy) (defBody sToldBy) (defScope sToldBy) [] [("known", .non)] f22 _ := ⟨⟨_, _, .none, .ref kd22, _, _, _, _, _, _, rfl, q22, r22, .inl ⟨rfl, rfl⟩, .inr ⟨kd22, rfl, fun z hz => by simp only [List.mem_cons, List.mem_nil_iff, or_false] at hz; rcases hz with rfl; exact ⟨_, e22_known, rfl⟩⟩⟩, s22⟩
  have m23 := PySem.W.mg_of X G p23
  have F23 := fun_mk (st := sCount) q23 r23 s23
  have b23 := F23.binds (ps := ["line", "day"]) fun _ _ _ _ _ _ us hl => match us, hl with | [_, _], _ => rfl
  have m24 := PySem.W.mg_of X G p24
  have F24 := fun_mk (st := sFound) q24 r24 s24
  have b24 := F24.binds (ps := ["line", "day"]) fun _ _ _ _ _ _ us hl => match us, hl with | [_, _], _ => rfl
  have m25 := PySem.W.mg_of X G p25
  have F25 : FunD K "rows_at" "rows_at" (defArgs sRows) (defBody sRows) (defScope sRows) [] [("known", .non)] f25 _ := ⟨⟨_, _, .none, .ref kd25, _, _, _, _, _, _, rfl, q25, r25, .inl ⟨rfl, rfl⟩, .inr ⟨kd25, rfl, fun z hz => by simp only [List.mem_cons, List.mem_nil_iff, or_false] at hz; rcases hz with rfl; exact ⟨_, e25_known, rfl⟩⟩⟩, s25⟩
  have m26 := PySem.W.mg_of X G p26
  have F26 := fun_mk (st := sCell) q26 r26 s26
  have b26 := F26.binds (ps := ["_law_deeds", "_law_place", "_law_day", "_law_until", "_law_held", "_law_line"]) fun _ _ _ _ _ _ us hl => match us, hl with | [_, _, _, _, _, _], _ => rfl
  have m27 := PySem.W.mg_of X G p27
  have F27 := fun_mk (st := sLaw) q27 r27 s27
  have b27 := F27.binds (ps := ["_law_script"]) fun _ _ _ _ _ _ us hl => match us, hl with | [_], _ => rfl
  have n_len := PySem.W.mg_none_of X G g_len
  have n_abs := PySem.W.mg_none_of X G g_abs
  have n_range := PySem.W.mg_none_of X G g_range
  have n_tuple := PySem.W.mg_none_of X G g_tuple
  have n_list := PySem.W.mg_none_of X G g_list
  have n_sorted := PySem.W.mg_none_of X G g_sorted
  have n_repr := PySem.W.mg_none_of X G g_repr
  have n_min := PySem.W.mg_none_of X G g_min
  have n_max := PySem.W.mg_none_of X G g_max
  have n_enumerate := PySem.W.mg_none_of X G g_enumerate
  have n_dict := PySem.W.mg_none_of X G g_dict
  have v_FIRST : ∃ u, mg "FIRST" = some u ∧ RelV (.int 0) u := ⟨_, PySem.W.mg_of X G c_FIRST, _, rfl⟩
  refine ⟨PySem.W.fnOf "law" "law" (defArgs sLaw) (defBody sLaw) (defScope sLaw) .none qv27 qd27 qm27 qn27 qe27 qt27, fun s v => .of_eq rfl, fun base _ _ => ?_⟩
  have G0 := ok_start (P := l.prog) (w := w) (mg := mg) (base := base) F0 n_enumerate n_abs
  have G1 := ok_take (P := l.prog) (w := w) (mg := mg) (base := base) F1
  have G2 := ok_of F2 G1 b1 s1 m1 n_len
  have G3 := ok_words F3 G2 b2 s2 m2 n_range
  have G4 := ok_order F4 G1 b1 s1 m1 n_len n_list n_range
  have G5 := ok_near F5 G1 b1 s1 m1 G2 b2 s2 m2 n_range n_tuple
  have G6 := ok_parts (P := l.prog) (w := w) (mg := mg) (base := base) F6
  have G7 := ok_covers (P := l.prog) (w := w) (mg := mg) (base := base) F7
  have G8 := ok_told F8 G6 b6 s6 m6 n_enumerate
  have G9 := ok_last F9 G7 b7 s7 m7
  have G10 := ok_early (P := l.prog) (w := w) (mg := mg) (base := base) F10 n_min
  have G11 := ok_clip F11 G10 b10 s10 m10 n_max
  have G12 := ok_join (P := l.prog) (w := w) (mg := mg) (base := base) F12 n_tuple
  have G13 := ok_paint F13 G11 b11 s11 m11 G12 b12 s12 m12 v_FIRST
  have G14 := ok_spanOf (P := l.prog) (w := w) (mg := mg) (base := base) F14
  have G15 := ok_worths (P := l.prog) (w := w) (mg := mg) (base := base) F15
  have G16 := ok_kdeeds (P := l.prog) (w := w) (mg := mg) (base := base) F16
  have G17 := ok_ksteps F17 G16 b16 s16 m16 n_enumerate
  have G18 := ok_lineOf F18 G17 b17 s17 m17 G14 b14 s14 m14 G15 b15 s15 m15 F13 G13 m13
  have G19 := ok_in (P := l.prog) (w := w) (mg := mg) (base := base) F19
  have G20 := ok_cov F20 G14 b14 s14 m14 G19 b19 s19 m19
  have G21 := ok_kline F21 G17 b17 s17 m17 G20 b20 s20 m20 G15 b15 s15 m15 F13 G13 m13
  have G22 := ok_toldBy F22 G17 b17 s17 m17 G20 b20 s20 m20
  have G23 := ok_count (P := l.prog) (w := w) (mg := mg) (base := base) F23 n_len
  have G24 := ok_found F24 G23 b23 s23 m23 G19 b19 s19 m19
  have G25 := ok_rows F25 G16 b16 s16 m16 G20 b20 s20 m20 G15 b15 s15 m15 n_sorted n_tuple
  have G26 := ok_cell F26 F22 G22 m22 G6 b6 s6 m6 G24 b24 s24 m24 G21 b21 s21 m21 G9 b9 s9 m9 G8 b8 s8 m8 n_repr
  exact ok_law F27 G0 b0 s0 m0 G1 b1 s1 m1 G2 b2 s2 m2 G4 b4 s4 m4 G3 b3 s3 m3 G5 b5 s5 m5 G26 b26 s26 m26 F18 G18 m18 F25 G25 m25 n_repr n_len n_range n_list n_dict
end Q20
open PySem PySem.W PyProof.Rows
set_option maxRecDepth 100000 in
set_option maxHeartbeats 0 in
theorem PySem.Challenge.cw_bothtimes_k20_whole_known_on_both_times_holds : PySem.Challenge.rw_bothtimes_k20_whole_known_on_both_times.Holds := by
  w_on; o_law; k_head; (case hw => w_witness2)
  k_fill
  refine L2.Gd.walkG (l := PySem.Challenge.rw_bothtimes_k20_whole_known_on_both_times) (n := 63) (k := 6) (x := "_law_script") (sp := fun w => Q20.spLaw _) rfl (by decide) rfl ⟨rfl, by decide, by decide⟩ (fun w h Y => PySem.W.kIn_of Y) ?F (fun _ _ a ns hl _ hS => ⟨a, ns, rfl, hS, hl, fun _ => rfl⟩)
  case F =>
    intro w mg fa h KX G hmg
    refine' Q20.all_mk KX G hmg ?p0 ?q0 ?r0 ?s0 ?p1 ?q1 ?r1 ?s1 ?p2 ?q2 ?r2 ?s2 ?p3 ?q3 ?r3 ?s3 ?p4 ?q4 ?r4 ?s4 ?p5 ?q5 ?r5 ?s5 ?p6 ?q6 ?r6 ?s6 ?p7 ?q7 ?r7 ?s7 ?p8 ?q8 ?r8 ?s8 ?p9 ?q9 ?r9 ?s9 ?p10 ?q10 ?r10 ?s10 ?p11 ?q11 ?r11 ?s11 ?p12 ?q12 ?r12 ?s12 ?p13 ?q13 ?r13 ?s13 ?e13_low ?e13_high ?p14 ?q14 ?r14 ?s14 ?p15 ?q15 ?r15 ?s15 ?p16 ?q16 ?r16 ?s16 ?p17 ?q17 ?r17 ?s17 ?p18 ?q18 ?r18 ?s18 ?e18_known ?p19 ?q19 ?r19 ?s19 ?p20 ?q20 ?r20 ?s20 ?p21 ?q21 ?r21 ?s21 ?p22 ?q22 ?r22 ?s22 ?e22_known ?p23 ?q23 ?r23 ?s23 ?p24 ?q24 ?r24 ?s24 ?p25 ?q25 ?r25 ?s25 ?e25_known ?p26 ?q26 ?r26 ?s26 ?p27 ?q27 ?r27 ?s27 ?g_len ?g_abs ?g_range ?g_tuple ?g_list ?g_sorted ?g_repr ?g_min ?g_max ?g_enumerate ?g_dict ?c_FIRST
    case p0 => k_is
    case q0 => k_is
    case r0 => k_is
    case s0 => k_is
    case p1 => k_is
    case q1 => k_is
    case r1 => k_is
    case s1 => k_is
    case p2 => k_is
    case q2 => k_is
    case r2 => k_is
    case s2 => k_is
    case p3 => k_is
    case q3 => k_is
    case r3 => k_is
    case s3 => k_is
    case p4 => k_is
    case q4 => k_is
    case r4 => k_is
    case s4 => k_is
    case p5 => k_is
    case q5 => k_is
    case r5 => k_is
    case s5 => k_is
    case p6 => k_is
    case q6 => k_is
    case r6 => k_is
    case s6 => k_is
    case p7 => k_is
    case q7 => k_is
    case r7 => k_is
    case s7 => k_is
    case p8 => k_is
    case q8 => k_is
    case r8 => k_is
    case s8 => k_is
    case p9 => k_is
    case q9 => k_is
    case r9 => k_is
    case s9 => k_is
    case p10 => k_is
    case q10 => k_is
    case r10 => k_is
    case s10 => k_is
    case p11 => k_is
    case q11 => k_is
    case r11 => k_is
    case s11 => k_is
    case p12 => k_is
    case q12 => k_is
    case r12 => k_is
    case s12 => k_is
    case p13 => k_is
    case q13 => k_is
    case r13 => k_is
    case s13 => k_is
    case e13_low => k_is
    case e13_high => k_is
    case p14 => k_is
    case q14 => k_is
    case r14 => k_is
    case s14 => k_is
    case p15 => k_is
    case q15 => k_is
    case r15 => k_is
    case s15 => k_is
    case p16 => k_is
    case q16 => k_is
    case r16 => k_is
    case s16 => k_is
    case p17 => k_is
    case q17 => k_is
    case r17 => k_is
    case s17 => k_is
    case p18 => k_is
    case q18 => k_is
    case r18 => k_is
    case s18 => k_is
    case e18_known => k_is
    case p19 => k_is
    case q19 => k_is
    case r19 => k_is
    case s19 => k_is
    case p20 => k_is
    case q20 => k_is
    case r20 => k_is
    case s20 => k_is
    case p21 => k_is
    case q21 => k_is
    case r21 => k_is
    case s21 => k_is
    case p22 => k_is
    case q22 => k_is
    case r22 => k_is
    case s22 => k_is
    case e22_known => k_is
    case p23 => k_is
    case q23 => k_is
    case r23 => k_is
    case s23 => k_is
    case p24 => k_is
    case q24 => k_is
    case r24 => k_is
    case s24 => k_is
    case p25 => k_is
    case q25 => k_is
    case r25 => k_is
    case s25 => k_is
    case e25_known => k_is
    case p26 => k_is
    case q26 => k_is
    case r26 => k_is
    case s26 => k_is
    case p27 => k_is
    case q27 => k_is
    case r27 => k_is
    case s27 => k_is
    case g_len => k_is
    case g_abs => k_is
    case g_range => k_is
    case g_tuple => k_is
    case g_list => k_is
    case g_sorted => k_is
    case g_repr => k_is
    case g_min => k_is
    case g_max => k_is
    case g_enumerate => k_is
    case g_dict => k_is
    case c_FIRST => k_is

import PyProof.Rows.All
import Wide.All
import OpenK.AllK
import Wide.FinOn
import PyProof.ReprRoads
import KE.KExcIs
import HandS.ForMost
import HandS.Exc
import HandS.ExcOwn
import HandS.ExcInit
import HandS.ExcValue
import HandS.Wide
import HandS.ExcIs
import HandS.ExcField
import HandS.IsInst
import PySem.Challenge.RW_featureunion_k81_exceptions_of_any_value
set_option Elab.async false
set_option linter.all false
set_option maxRecDepth 100000
set_option maxHeartbeats 4000000
/-! ## Calls where no repr is under way -/
namespace L2.Fu
open PySem PySem.Spec PyProof.Rows

/-- what a def promises to callers around whom no repr runs -/
structure FnG (P : Program) (w : World) (K : PySem.W.Frag) (mg : Str → Option Value) (base : Heap) (CX : CXT) (k : Nat) (f : Addr) (fd : FuncData) (ps : List Str) (sp : Sp) : Prop where
  len : ∀ vs H Q E, sp vs H Q E → vs.length = ps.length
  go : ∀ (A : Around) (outer : List Env) (s : Shared) (H : Hp) (args : Args) (us : List Value) (vs : List V) (Q : VK) (E : XK), A.guards = some [] → Room k A → Env0 P w K mg base A outer s H →
    BindsTo s fd args (ps.zip us) → Vals vs us → sp vs H Q E → codeAny (model P w) A (.call (.ref f) args) (CR CX outer P w H s Q E) s

section
variable {P : Program} {w : World} {K : PySem.W.Frag} {mg : Str → Option Value} {base : Heap}
theorem FnG.of {CX : CXT} {k : Nat} {f : Addr} {fd : FuncData} {ps : List Str} {sp : Sp} (F : FnOk P w K mg base CX k f fd ps sp) : FnG P w K mg base CX k f fd ps sp :=
  ⟨F.len, fun A outer s H args us vs Q E _ hr e b v h => F.run A outer s H args us vs Q E hr e b v h⟩

/-- a def of the text by its body, guards told -/
theorem Fun.okG {x qual : Str} {st : Stmt} {f : Addr} {fd : FuncData} {N ps : List Str} {k : Nat} {sp : Sp} (F : Fun K x qual st f fd) (S : FnScope N ps (defScope st)) (len : ∀ vs H Q E, sp vs H Q E → vs.length = ps.length)
    (body : ∀ (cdv : Value) (A : Around) (outer : List Env) (s : Shared) (H : Hp) (vs : List V) (Q : VK) (E : XK), (A.deeper (envOfC qual (defScope st) s.heap.objs.size f cdv)).guards = some [] →
      Room k (A.deeper (envOfC qual (defScope st) s.heap.objs.size f cdv)) → sp vs H Q E →
      ∃ t, PSs (cxOf CX0 P w K mg base N qual (defScope st) f cdv A outer s H E).nox (defBody st) t ∧ t { nx := fun _ H' => Q .non H', rt := Q } (start N vs) H) : FnG P w K mg base CX0 (k + 1) f fd ps sp := by
  obtain ⟨oc, od, kV, doc, pm, an, cdv, ct, osl, rfl, lk, hcd⟩ := F.ex
  refine ⟨len, fun A outer s H args us vs Q E gd hr e0 hb r hsp => ?_⟩
  have inK : K.In s.heap := e0.mod.kin.keeps fun b o e => (e0.bs b o e).1
  have par : ∀ y ∈ ps.zip us, (defScope st).names.lookup y.1 = some .local ∨ ((defScope st).names.lookup y.1 = some .cell ∧ ((cellsFrom (s.heap.objs.size + 1) (defScope st).names []).lookup y.1).isSome = true) := by
    rintro ⟨n, v⟩ hy
    rcases S.par n (List.of_mem_zip hy).1 with q | q
    · exact .inl q
    · exact .inr ⟨q, PySem.W.cellsFrom_some _ _ _ (.inl q)⟩
  refine codeAny_call_function hr.depth (inK _ _ lk) rfl S.co S.gen rfl (PySem.W.codeRec_of inK hcd) (hb _ _ _ _ ?_)
  refine wpAny_newFunctionEnv_cells S.kind par fun env he s1 x => ?_
  subst he
  refine ⟨(e0.mod.nolimit.keeps fun b o e => (e0.bs b o e).1).keeps x.toInCall.keep, codeAny_func ?_⟩
  obtain ⟨t, ht, hq⟩ := body cdv A outer s H vs Q E gd (hr.deeper _) hsp
  have I0 := inv_start (CX := CX0) (E := E) S hr.hd e0 (len _ _ _ _ hsp) r x
  refine wpAny_mono (ht.nox.run [] s1 (start N vs) H _ I0 hq) (fun fl s' hs => ?_) fun e s' hs => hs
  cases fl with
  | ret u =>
    obtain ⟨v, σ', H', J, rv, q⟩ := hs
    exact ⟨v, H', J.os, J.bare, J.base, J.hok, rv, q⟩
  | next =>
    obtain ⟨σ', H', J, q⟩ := hs
    exact ⟨V.non, H', J.os, J.bare, J.base, J.hok, rfl, q⟩
  | brk => exact hs.elim fun _ z => z.elim fun _ z => z.2.elim
  | cont => exact hs.elim fun _ z => z.elim fun _ z => z.2.elim
end

section
variable {X : Cx} {CX : CXT} {k : Nat} {f : Addr} {fd : FuncData} {ps : List Str} {sp : Sp} {dvs : List V} {ds : List Value} {E : XK} {x : Str} {p pos : Pos} {e : Expr} {es : List Expr} {t : TA}
/-- f(e, ..) where no repr is under way -/
theorem pe_callG (F : FnG X.prog X.w X.K X.mg X.base CX k f fd ps sp) (gd : X.A.guards = some []) (hr : Room k X.A) (hg : Gl X x) (hm : X.mg x = some (.ref f)) (hk : PySem.W.keepIn X.K (.ref f) = true) (hb : Binds X.K fd ps ds) (hd : Vals dvs ds) (hx : Passes CX X E)
    (ha : PA X (e :: es) t) (hdb : (x == ("__debug__" : Str)) = false := by decide) (he : starEach (e :: es) X.env = (false, eval e X.env) :: starEach es X.env := by rfl) (hpl : (backTo pos (starEach es X.env)).any (·.1) = false := by rfl) :
    PE X (.Call (.Name x p) (e :: es) [] pos) (tCall sp dvs E t) := by
  refine ⟨fun pins s σ H Q I h => wpAny_Call_Name_kw (ld_glob I hg hm ?_ hdb)⟩
  refine PySem.W.callWith_K (h₀ := X.base) I.ok.mod.kin hk (thn (ha.run pos pins s σ H _ I h) fun us s1 hh => ?_) he hpl
  obtain ⟨vs, H1, J, r, q⟩ := hh
  refine ⟨J.kIn, ?_⟩
  have rr : Vals (vs ++ dvs) (us ++ ds) := r.append hd
  have ll : (us ++ ds).length = ps.length := rr.length.symm.trans (F.len _ _ _ _ q)
  refine wpAny_call (codeAny_mono (F.go X.A X.stack s1 H1 ⟨us, []⟩ (us ++ ds) (vs ++ dvs) Q E gd hr J.env0 (hb s1 us J.kIn ll) rr q) fun res s2 hq => ?_)
  match res, hq with
  | .error er, hq => exact hx pins σ H1 s1 er s2 J hq
  | .ok (.ret u), hq => exact J.after hq
  | .ok .next, hq => exact hq.elim
  | .ok .brk, hq => exact hq.elim
  | .ok .cont, hq => exact hq.elim
end
end L2.Fu
/-! ## The end of a law over such a def -/
namespace L2.Fu
open PySem PySem.Spec PyProof.Rows

/-- the law's call from a heap in which the script alone is tracked, if it is -/
theorem lawG_at {P : Program} {w : World} {K : PySem.W.Frag} {mg mb : Str → Option Value} {k : Nat} {fa a : Addr} {fd : FuncData} {x : Str} {sp : Sp} {s1 : Shared} {vs : List Value} {H : Hp}
    (KX : K.In s1.heap) (nsG : s1.heap.Ns mainGlobals mg) (nsB : s1.heap.Ns builtinsNs mb) (isB : ∀ x : Str, x ≠ "__name__" → mb x = bootBuiltins x) (lim : s1.heap.NoLimit) (gens : s1.gens = #[])
    (sc : s1.heap.get? a = some { cls := .type "list", data := .seq vs.toArray }) (hr : Room k callerA)
    (F : ∀ base : Heap, K.In base → base.Ns mainGlobals mg → FnG P w K mg base CX0 k fa fd [x] sp) (hbind : ∀ (s : Shared) (u : Value), BindsTo s fd ⟨[u], []⟩ [(x, u)])
    (only : Only H) (hok : HOk P w H s1.heap) (at_a : ∀ b, H b ≠ none → b = a) (offK : H a ≠ none → K.lookup a = none) (hsp : sp [.ref a] H (fun v _ => v = .bl true) fun _ _ _ => False) :
    codeAny (model P w) callerA (.call (.ref fa) ⟨[.ref a], []⟩) (fun r s' => r = .ok (.ret (.bool true)) ∧ OldK s1.heap s'.heap ∧ s'.os = s1.os ∧ AllBare s'.gens) s1 := by
  -- a dict of the heap is not the script
  have plainD : ∀ (b : Addr) (o : Obj) (es : Array DictEntry) (ep : Nat), s1.heap.get? b = some o → o.data = .dict es ep → H b = none := by
    intro b o es ep e d
    cases q : H b with
    | none => rfl
    | some u =>
      obtain rfl : b = a := at_a b (by rw [q]; exact Option.some_ne_none u)
      rw [sc] at e
      cases e
      cases (show Data.seq vs.toArray _ = Data.dict es ep from d)
  have nsHid : ∀ (b : Addr) (m : Str → Option Value), s1.heap.Ns b m → (hidT s1.heap H).Ns b m := by
    rintro b m ⟨o, es, ep, e, d, r⟩
    exact ⟨o, es, ep, hidT_get e (plainD b o es ep e d), d, r⟩
  have inHid : K.In (hidT s1.heap H) := by
    intro b o e
    refine hidT_get (KX b o e) ?_
    cases q : H b with
    | none => rfl
    | some u =>
      have nn : H b ≠ none := by rw [q]; exact Option.some_ne_none u
      obtain rfl : b = a := at_a b nn
      rw [offK nn] at e
      cases e
  obtain ⟨mc, c1, c2⟩ := lim
  have modH : Mod K mg (hidT s1.heap H) := ⟨inHid, nsHid _ _ nsG, ⟨mb, nsHid _ _ nsB, isB⟩, ⟨mc, nsHid _ _ c1, c2⟩⟩
  have e0 : Env0 P w K mg (hidT s1.heap H) callerA [] s1 H :=
    { frames := rfl, mod := modH, bs := fun b o e => of_hidT e, bsz := Nat.le_of_eq (hidT_size _ _), funs := trivial, frf := (fun b z => nomatch z), hok := hok, bare := .of_eq gens }
  refine codeAny_mono ((F _ inHid (nsHid _ _ nsG)).go callerA [] s1 H ⟨[.ref a], []⟩ [.ref a] [.ref a] _ _ rfl hr e0 (hbind s1 (.ref a)) (.cons rfl .nil) hsp) fun r s' h => ?_
  match r, h with
  | .error e, h => exact h.elim
  | .ok .next, h => exact h.elim
  | .ok .brk, h => exact h.elim
  | .ok .cont, h => exact h.elim
  | .ok (.ret u), h =>
    obtain ⟨v, H', os, bare, un, hok', r', q⟩ := h
    obtain rfl : v = V.bl true := q
    obtain rfl : u = Value.bool true := r'
    refine ⟨rfl, OldK.of_keep fun b o e => ?_, os, bare⟩
    rcases only b with z | ⟨ob, xs, z⟩
    · exact un.keep b o e z (fun t => nomatch t) fun t => nomatch t
    · have old := (hok b _ z).1
      rw [e] at old
      cases old
      exact (hok' b _ (un.frzs b o _ z)).1

theorem endG {l : PySem.W.OpenLaw} {n k : Nat} {q : Program} {loose : List Str} {XP : (Str → Option Value) → Heap → Prop} {YP : World → Heap → Prop} {d : DefRec} {K : Params → PySem.W.Frag} {sp : PySem.W.Frag → Sp} {x : Str}
    (hn : l.most = some n) (hn2 : n ≤ sizeLine) (hdf : d.params.defaults = []) (hr : Room k callerA)
    (hY : ∀ (w : World) (h : Heap), YP w h → (K w.params).In h)
    (F : ∀ (w : World) (mg : Str → Option Value) (fa : Addr) (h : Heap), (K w.params).In h → h.Ns mainGlobals mg → mg d.name = some (.ref fa) →
      ∃ fd : FuncData, (∀ (s : Shared) (u : Value), BindsTo s fd ⟨[u], []⟩ [(x, u)]) ∧
        ∀ base : Heap, (K w.params).In base → base.Ns mainGlobals mg → FnG l.prog w (K w.params) mg base CX0 k fa fd [x] (sp (K w.params)))
    (hsp : ∀ (K : PySem.W.Frag) (H : Hp) (a : Addr) (ns : List Int), ns.length ≤ n → Only H → SqL K H a (ns.map V.int) → sp K [.ref a] H (fun v _ => v = .bl true) fun _ _ _ => False) :
    PySem.W.WalkO q loose XP YP l.row.toRowW d [] (fun f vs => PySem.call f vs) := by
  refine Att.attach_call hn hdf fun w s0 s1 mg mb fa o pm cd doc a vs ns G Y ho hd hcd hmg hobj hints hlen hg => ?_
  have KX := hY w _ Y
  obtain ⟨fd, hb, hF⟩ := F w mg fa _ KX G.T.g hmg
  have rv := vals_ints hints
  have sz : ns.length ≤ sizeLine := Nat.le_trans hlen hn2
  have lawAt := fun H a1 a2 a3 a4 a5 => lawG_at (H := H) KX G.T.g G.T.b G.T.builtins G.T.nolimit hg hobj hr hF hb a1 a2 a3 a4 a5
  cases hk : (K w.params).lookup a with
  | some ob =>
    have e := KX a ob hk
    rw [hobj] at e
    cases e
    have hS : SqL (K w.params) (fun _ => none) a (ns.map V.int) := .inr ⟨_, vs.toArray, _, hk, rfl, rfl, rfl, by rw [List.size_toArray, hints.length]; exact sz, by simpa using rv⟩
    exact lawAt (fun _ => none) (fun _ => .inl rfl) (fun b u z => nomatch z) (fun b z => absurd rfl z) (fun z => absurd rfl z) (hsp _ _ a ns hlen (fun _ => .inl rfl) hS)
  | none =>
    have fz : ObjOk l.prog w (upd (fun _ => none) a (.frz { cls := .type "list", data := .seq vs.toArray } (.lst (ns.map V.int)))) s1.heap a (.frz { cls := .type "list", data := .seq vs.toArray } (.lst (ns.map V.int))) :=
      ⟨hobj, by rw [List.length_map]; exact sz, vs, _, rv, hobj⟩
    have only : Only (upd (fun _ => none) a (.frz { cls := .type "list", data := .seq vs.toArray } (.lst (ns.map V.int)))) := fun b => by
      by_cases hb : b = a
      · exact .inr ⟨_, _, by rw [hb]; exact upd_same⟩
      · exact .inl (upd_ne hb)
    refine lawAt _ only (fun b u z => ?_) (fun b z => ?_) (fun _ => hk) (hsp _ _ a ns hlen only (.inl (.inr ⟨_, upd_same⟩)))
    · by_cases hb : b = a
      · subst hb
        rw [upd_same] at z
        cases z
        exact fz
      · rw [upd_ne hb] at z
        cases z
    · by_cases hb : b = a
      · exact hb
      · exact absurd (upd_ne hb) z
end L2.Fu
/-! ## Data, and how it is shown -/
namespace L2.Fu
open PySem PySem.Spec PyProof.Rows

def keyD : Key → PyData
  | .inl i => .int i
  | .inr x => .str x
mutual
/-- v is read as d in the abstract heap H; every list, tuple and dict of it is tracked -/
inductive Da (H : Hp) : V → PyData → Prop
  | non : Da H .non .none
  | bl (b : Bool) : Da H (.bl b) (.bool b)
  | int (i : Int) : Da H (.int i) (.int i)
  | str (x : Str) : Da H (.str x) (.str x)
  | lst {a : Addr} {xs : List V} {ds : List PyData} : H a = some (.lst xs) → a ≠ sysModules → DaAll H xs ds → Da H (.ref a) (.list ds)
  | tup {a : Addr} {xs : List V} {ds : List PyData} : H a = some (.tup xs) → DaAll H xs ds → Da H (.ref a) (.tuple ds)
  | dic {a : Addr} {kvs : List (Key × V)} {ds : List PyData} : H a = some (.dK kvs) → DaAll H (kvs.map (·.2)) ds → Da H (.ref a) (.dict ((kvs.map fun kv => keyD kv.1).zip ds))
inductive DaAll (H : Hp) : List V → List PyData → Prop
  | nil : DaAll H [] []
  | cons {v : V} {vs : List V} {d : PyData} {ds : List PyData} : Da H v d → DaAll H vs ds → DaAll H (v :: vs) (d :: ds)
end
theorem DaAll.length {H : Hp} : ∀ {vs : List V} {ds : List PyData}, DaAll H vs ds → vs.length = ds.length
  | _, _, .nil => rfl
  | _, _, .cons _ t => by rw [List.length_cons, List.length_cons, DaAll.length t]
theorem Da.mono {H H' : Hp} (s : Same H H') {v : V} {d : PyData} (h : Da H v d) : Da H' v d :=
  Da.rec (motive_1 := fun v d _ => Da H' v d) (motive_2 := fun vs ds _ => DaAll H' vs ds) .non .bl .int .str (fun e n _ q => .lst (s _ _ e) n q) (fun e _ q => .tup (s _ _ e) q) (fun e _ q => .dic (s _ _ e) q) .nil (fun _ _ a b => .cons a b) h
theorem DaAll.mono {H H' : Hp} (s : Same H H') {vs : List V} {ds : List PyData} (h : DaAll H vs ds) : DaAll H' vs ds := by
  induction h using DaAll.rec (motive_1 := fun v d _ => True) with
  | nil => exact .nil
  | cons a _ _ b => exact .cons (a.mono s) b
  | _ => trivial

section
variable {X : Cx} {pins : List (Addr × Obj)} {σ : St} {H : Hp} {s : Shared}
/-- how a tracked dict is read -/
theorem dict_reads {P : Program} {w : World} {h : Heap} : ∀ {es : List DictEntry} {kvs : List (Key × Value)} {ks : List (Key × V)}, PySem.Pairs (mixKind P w) es kvs → KV ks kvs →
    ReadsAll h (es.map (·.key)) (ks.map fun kv => keyD kv.1) [] ∧ Vals (ks.map (·.2)) (es.map (·.val))
  | _, _, _, .nil, .nil => ⟨.nil, .nil⟩
  | _, _, _, .cons (e := e) (kv := kv) h1 h2 t, .cons (a := k) r t' => by
    obtain ⟨q1, q2⟩ := dict_reads (h := h) t t'
    have hk : keyIs kv.1 e.key = true := h1
    rw [← r.1] at hk
    have rd : Reads h e.key (keyD k.1) [] := by
      rcases keyIs_shape hk with ⟨i, u, e1, e2⟩ | ⟨x, u, e1, e2⟩
      · rw [e1, e2]; exact .int i u
      · rw [e1, e2]; exact .str x u
    exact ⟨ReadsAll.cons (as := []) (bs := []) rd q1, .cons (show RelV k.2 e.val by rw [h2]; exact r.2) q2⟩
theorem zip_fst : ∀ {α β : Type} (as : List α) (bs : List β), as.length = bs.length → (as.zip bs).map (·.1) = as
  | _, _, [], _, _ => rfl
  | _, _, a :: as, [], h => nomatch h
  | _, _, a :: as, b :: bs, h => by rw [List.zip_cons_cons, List.map_cons, zip_fst as bs (Nat.succ.inj h)]
theorem zip_snd : ∀ {α β : Type} (as : List α) (bs : List β), as.length = bs.length → (as.zip bs).map (·.2) = bs
  | _, _, [], [], _ => rfl
  | _, _, [], b :: bs, h => nomatch h
  | _, _, a :: as, [], h => nomatch h
  | _, _, a :: as, b :: bs, h => by rw [List.zip_cons_cons, List.map_cons, zip_snd as bs (Nat.succ.inj h)]
theorem Da.reads (I : Inv X pins σ H s) {v : V} {d : PyData} (h : Da H v d) : ∀ u : Value, RelV v u → ∃ as, Reads s.heap u d as ∧ sysModules ∉ as := by
  refine Da.rec (motive_1 := fun v d _ => ∀ u : Value, RelV v u → ∃ as, Reads s.heap u d as ∧ sysModules ∉ as) (motive_2 := fun vs ds _ => ∀ us : List Value, Vals vs us → ∃ as, ReadsAll s.heap us ds as ∧ sysModules ∉ as)
    ?_ ?_ ?_ ?_ ?_ ?_ ?_ ?_ ?_ h
  · intro u r
    cases (show u = Value.none from r)
    exact ⟨[], .none, fun z => nomatch z⟩
  · intro b u r
    cases (show u = Value.bool b from r)
    exact ⟨[], .bool b, fun z => nomatch z⟩
  · intro i u r
    obtain ⟨t, rfl⟩ := (show ∃ t, u = Value.int i t from r)
    exact ⟨[], .int i t, fun z => nomatch z⟩
  · intro x u r
    obtain ⟨t, rfl⟩ := (show ∃ t, u = Value.str x t from r)
    exact ⟨[], .str x t, fun z => nomatch z⟩
  · intro a xs ds e n _ ih u r
    cases (show u = Value.ref a from r)
    obtain ⟨_, its, m, rv, ho⟩ := (show ObjOk X.prog X.w H s.heap a (.lst xs) from I.hok a _ e)
    obtain ⟨as, q, z⟩ := ih its rv
    exact ⟨a :: as, .list ho rfl rfl (by simpa using q), fun t => (List.mem_cons.mp t).elim (fun y => n y.symm) z⟩
  · intro a xs ds e _ ih u r
    cases (show u = Value.ref a from r)
    obtain ⟨_, its, rv, o, ho, hc, m, hd⟩ := (show ObjOk X.prog X.w H s.heap a (.tup xs) from I.hok a _ e)
    obtain ⟨as, q, z⟩ := ih its rv
    exact ⟨as, .tuple ho hc hd (by simpa using q), z⟩
  · intro a kvs ds e hall ih u r
    cases (show u = Value.ref a from r)
    obtain ⟨_, ny, vs, rv, o, es, ep, ho, hx, hd, _, pr, _⟩ := (show ObjOk X.prog X.w H s.heap a (.dK kvs) from I.hok a _ e)
    obtain ⟨q1, q2⟩ := dict_reads (h := s.heap) pr rv
    obtain ⟨as, q3, z⟩ := ih _ q2
    have hl : (kvs.map fun kv => keyD kv.1).length = ds.length := by
      have := hall.length
      rw [List.length_map] at this ⊢
      exact this
    refine ⟨a :: [] ++ as, .dict ho hx.1 hd (by rw [zip_fst _ _ hl]; exact q1) (by rw [zip_snd _ _ hl]; exact q3), fun t => ?_⟩
    rcases List.mem_cons.mp (show sysModules ∈ a :: as from t) with y | y
    · exact absurd y.symm (fun y' => by rw [y'] at ny; exact absurd ny (by decide))
    · exact z y
  · intro us r
    cases r
    exact ⟨[], .nil, fun z => nomatch z⟩
  · intro v vs d ds _ _ i1 i2 us r
    cases r with
    | cons r1 r2 =>
      obtain ⟨as, q1, z1⟩ := i1 _ r1
      obtain ⟨bs, q2, z2⟩ := i2 _ r2
      exact ⟨as ++ bs, .cons q1 q2, fun t => (List.mem_append.mp t).elim z1 z2⟩
end

/-- data that repr shows: what is shown has at most n signs, nested at most k deep -/
structure Shows (d : PyData) (n k : Nat) : Prop where
  can : d.showable = true
  few : d.shown.length ≤ n
  flat : d.depth ≤ k
/-- repr(x), x data, where no repr is under way -/
def rRepr : List V → Hp → VK → Prop := fun xs H Q => ∃ (x : V) (d : PyData), xs = [x] ∧ Da H x d ∧ Shows d 16000000 60 ∧ Q (.str d.shown) H
theorem call_reprD {X : Cx} (gd : X.A.guards = some []) (hu : X.A.units + 64 < cLine) : CallR X (.builtin "repr") rRepr := by
  intro pins s σ H xs us Q I r h
  obtain ⟨x, d, rfl, hd, sh, q⟩ := h
  have hz : d.shown.length ≤ sizeLine := Nat.le_trans sh.few (by rw [sizeLine_eq]; decide)
  have hdp := sh.flat
  cases r with
  | @cons _ u _ ur ru rn =>
    cases rn
    obtain ⟨as, rd, hsm⟩ := hd.reads I u ru
    have can := sh.can
    cases hd with
    | non =>
      cases (show u = Value.none from ru)
      exact PySem.P.repr_of_none ⟨.str _, H, I.tok _, ⟨_, rfl⟩, q⟩
    | bl b =>
      cases (show u = Value.bool b from ru)
      exact PySem.P.repr_of_bool ⟨.str _, H, I.tok _, ⟨_, rfl⟩, q⟩
    | int i =>
      obtain ⟨t, rfl⟩ := (show ∃ t, u = Value.int i t from ru)
      exact PySem.P.repr_of_int (by simpa [PyData.showable] using can) ⟨.str _, H, I.tok _, ⟨_, rfl⟩, q⟩
    | str x =>
      obtain ⟨t, rfl⟩ := (show ∃ t, u = Value.str x t from ru)
      exact PySem.P.repr_of_str ⟨.str _, H, I.tok _, ⟨_, rfl⟩, q⟩ hz
    | lst e n ha =>
      cases ru
      exact repr_of_reads' rd can (fun _ => hsm) gd (by omega) (fun _ _ z => z) (fun h' t tk hk => ⟨.str _, H, I.kept hk, ⟨_, rfl⟩, q⟩) hz
    | tup e ha =>
      cases ru
      exact repr_of_reads' rd can (fun _ => hsm) gd (by omega) (fun _ _ z => z) (fun h' t tk hk => ⟨.str _, H, I.kept hk, ⟨_, rfl⟩, q⟩) hz
    | dic e ha =>
      cases ru
      exact repr_of_reads' rd can (fun _ => hsm) gd (by omega) (fun _ _ z => z) (fun h' t tk hk => ⟨.str _, H, I.kept hk, ⟨_, rfl⟩, q⟩) hz

/-- a new list, told not to be the table of modules -/
def tLstN (t : TA) : TE := fun σ H Q => t σ H fun xs H1 => xs.length ≤ sizeLine ∧ ∀ p, H1 p = none → p ≠ sysModules → Q (.ref p) (upd H1 p (.lst xs))
theorem new_ne {X : Cx} {pins : List (Addr × Obj)} {σ : St} {H : Hp} {s : Shared} (I : Inv X pins σ H s) : s.heap.objs.size ≠ sysModules := by
  obtain ⟨o, _, _, e, _⟩ := I.ok.mod.glob
  have h3 : mainGlobals < X.base.objs.size := Heap.lt_size e
  have h4 : X.base.objs.size ≤ s.heap.objs.size := Nat.le_trans I.ok.bsz I.sz
  have h5 : sysModules < mainGlobals := by decide
  exact Nat.ne_of_gt (Nat.lt_of_lt_of_le (Nat.lt_trans h5 h3) h4)
theorem pe_lstN {X : Cx} {es : List Expr} {t : TA} {pos : Pos} (h : PA X es t) : PE X (.List es pos) (tLstN t) := by
  refine ⟨fun pins s σ H Q I hq => wpAny_List_spliced (thn (h.run pos pins s σ H _ I hq) fun us s1 hh => ?_)⟩
  obtain ⟨xs, H1, J, r, z, q⟩ := hh
  refine ⟨by rw [← r.length]; exact z, .ref s1.heap.objs.size, upd H1 s1.heap.objs.size (.lst xs), ?_, rfl, q _ (J.hok.fresh (Nat.le_refl _)) (new_ne J)⟩
  exact J.laid (t' := s1.toks) (fun b u e => Heap.get?_push_of_some _ e) (Nat.le_refl _) ⟨z, us, 0, r, Heap.get?_push_size _ rfl⟩
end L2.Fu
/-! ## Exceptions held as values -/
namespace L2.Fu
open PySem PySem.Spec PyProof.Rows

/-- C(e, ..) as a value: the exception stays tracked -/
def tMkV (C : Addr) (sp : Sp) (ta : TA) : TE := fun σ H Q => ta σ H fun vs H1 => vs.length ≤ 1000 ∧ ∀ a, H1 a = none → sp (.ref a :: vs) (upd H1 a (exo a C none)) (fun v H2 => v = .non ∧ Q (.ref a) H2) (fun _ _ _ => False)
theorem pe_excI {X : Cx} {x : Str} {C fI : Addr} {k : Nat} {fd : FuncData} {ps : List Str} {sp : Sp} {e : Expr} {es : List Expr} {ta : TA} {p pos : Pos} (T : OexC X.K C) (iC : PySem.W.findIn X.K (.ref C) "__init__" = some (some (.ref fI))) (tI : PySem.W.typeIn X.K (.ref fI) = some (.type "function"))
    (F1 : FnOk X.prog X.w X.K X.mg X.base CX0 k fI fd ps sp) (hr : Room (k + 1) X.A) (hb : Binds X.K fd ps []) (hg : Gl X x) (hm : X.mg x = some (.ref C)) (ha : PA X (e :: es) ta)
    (hdb : (x == ("__debug__" : Str)) = false := by decide) (he : starEach (e :: es) X.env = (false, eval e X.env) :: starEach es X.env := by rfl) (hpl : (backTo pos (starEach es X.env)).any (·.1) = false := by rfl) :
    PE X (.Call (.Name x p) (e :: es) [] pos) (tMkV C sp ta) := by
  refine ⟨fun pins s σ H Q I h => wpAny_Call_Name_kw (ld_glob I hg hm ?_ hdb)⟩
  obtain ⟨nm, q, N, bs, bm, sn, sub, ab, col, dd, k0, k1, k2, k3, k5, hC, hbm⟩ := T.cls
  refine PySem.W.callWith_K (h₀ := X.base) I.ok.mod.kin T.kC (thn (ha.run pos pins s σ H _ I h) fun us s1 hh => ?_) he hpl
  obtain ⟨vs, H1, J, r, hz, q1⟩ := hh
  refine ⟨J.kIn, ?_⟩
  show wpAny _ _ (call (.ref C) us) _ _ _
  obtain ⟨hp, g, dr, tk, os⟩ := s1
  have grow : ∀ b o, hp.get? b = some o → ((hp.push (PySem.W.kdv_tup us)).push (PySem.HandSPX.excO C hp.objs.size)).get? b = some o := fun b o e => Heap.get?_push_of_some _ (Heap.get?_push_of_some _ e)
  have new : ((hp.push (PySem.W.kdv_tup us)).push (PySem.HandSPX.excO C hp.objs.size)).get? (hp.objs.size + 1) = some (PySem.HandSPX.excO C hp.objs.size) := by heap_get
  have J2 : Inv X pins σ (upd H1 (hp.objs.size + 1) (exo (hp.objs.size + 1) C none)) ⟨(hp.push (PySem.W.kdv_tup us)).push (PySem.HandSPX.excO C hp.objs.size), g, dr, tk, os⟩ :=
    J.laid (t' := tk) (a := hp.objs.size + 1) (o := exo (hp.objs.size + 1) C none) (h' := (hp.push (PySem.W.kdv_tup us)).push (PySem.HandSPX.excO C hp.objs.size)) grow (Nat.le_succ _) (exo_ok new)
  have hq := q1 (hp.objs.size + 1) (J.hok.fresh (Nat.le_succ _))
  have rr : Vals (V.ref (hp.objs.size + 1) :: vs) (Value.ref (hp.objs.size + 1) :: us) := .cons rfl r
  have ll : ((Value.ref (hp.objs.size + 1) :: us) ++ ([] : List Value)).length = ps.length := by
    rw [List.append_nil, ← rr.length]
    exact F1.len _ _ _ _ hq
  have hb2 := hb ⟨(hp.push (PySem.W.kdv_tup us)).push (PySem.HandSPX.excO C hp.objs.size), g, dr, tk, os⟩ (Value.ref (hp.objs.size + 1) :: us) J2.kIn ll
  rw [List.append_nil] at hb2
  have few : us.length ≤ sizeLine := by
    rw [← Paired.length r, sizeLine_eq]
    omega
  refine wpAny_call (PySem.HandSPX.call_own F.excBase_ValueError (fun Y => PySem.HandSPX.refsVE_contains Y bm hbm) (J.kIn _ _ hC) (PySem.W.looks_findIn J.kIn iC) (fun self => PySem.W.bind_fn J.kIn self tI) few
    (codeAny_mono (F1.run _ X.stack _ _ ⟨Value.ref (hp.objs.size + 1) :: us, []⟩ (Value.ref (hp.objs.size + 1) :: us) _ _ (fun _ _ _ => False) (hr.make C us []) (J2.env0.make C us []) hb2 rr hq) fun res s2 hq2 => ?_))
  match res, hq2 with
  | .error er, hq2 => exact hq2.elim
  | .ok .next, hq2 => exact hq2.elim
  | .ok .brk, hq2 => exact hq2.elim
  | .ok .cont, hq2 => exact hq2.elim
  | .ok (.ret u), hq2 =>
    obtain ⟨v, H2, J3, rv, ev, q3⟩ := J2.after hq2
    subst ev
    exact ⟨rv, .ref (hp.objs.size + 1), H2, J3, rfl, q3⟩

/-- C(), an own exception class without own __init__ -/
theorem pe_exc0 {X : Cx} {C : Addr} {bmB : List Value} {B newId initId : String} {x : Str} {p pos : Pos} (F : ExcBaseFacts B newId initId bmB) (q : PySem.W.excIn X.K C bmB newId = true) (gC : X.mg x = some (.ref C)) (kC : PySem.W.keepIn X.K (.ref C) = true) (hg : Gl X x)
    (hdb : (x == ("__debug__" : Str)) = false := by decide) : PE X (.Call (.Name x p) [] [] pos) (fun σ H Q => ∀ a, H a = none → Q (.ref a) (upd H a (ExO (.ref C) a))) := by
  refine ⟨fun pins s σ H Q I h => wpAny_Call_Name_kw (ld_glob I hg gC ?_ hdb)⟩
  refine PySem.W.callWith_K0 I.kIn kC ?_
  obtain ⟨bm, N, nm, qn, bs, hdct, sn, sub, ab, col, dd, k0, k1, k2, k3, k5, mN, hC, hN, hni, T⟩ := exc_obj I.kIn q
  refine wpAny_call_exc_subT F T hC hN hni (fun h' a hm => ?_) (by show 0 ≤ sizeLine; exact Nat.zero_le _)
  have free : H a = none := I.hok.gone hm.new
  obtain ⟨t, ht, _, _⟩ := hm.there
  exact ⟨.ref a, upd H a (ExO (.ref C) a), I.laidN hm.keeps hm.new free (exO_ok ht ⟨rfl, rfl⟩ rfl rfl rfl (show 4 < 6 by decide)), rfl, h a free⟩

/-- e.f of an exception that is held -/
def tXv (K : PySem.W.Frag) (f : Str) (te : TE) : TE := fun σ H Q => te σ H fun x H1 => ∃ (a C dx : Addr) (fs : List (Str × V)) (v : V), x = .ref a ∧ XfC K C ∧ PySem.W.findIn K (.ref C) f = some none ∧
  H1 a = some (exo a C (some dx)) ∧ H1 dx = some (exd dx fs) ∧ fs.lookup f = some v ∧ Q v H1
theorem pe_xv {X : Cx} {e : Expr} {te : TE} {pos : Pos} {f : Str} (he : PE X e te) (hb : attributeBase e f X.env (eval e X.env) = eval e X.env := by rfl) : PE X (.Attribute e f pos) (tXv X.K f te) := by
  refine ⟨fun pins s σ H Q I h => attr_of hb (thn (he.run pins s σ H _ I h) fun u s1 hh => ?_)⟩
  obtain ⟨x, H1, J, rx, a, C, dx, fs, v, rfl, T, no, ea, ed, l, q⟩ := hh
  cases rx
  obtain ⟨t1, ho⟩ := exo_at J.hok ea
  obtain ⟨mA, hns, rel⟩ := exd_at J.hok ed
  obtain ⟨od, hod, hl⟩ := lookIn_ns hns
  obtain ⟨z, hz, rz⟩ := RelO.some_of (v := v) (o := mA f) (by rw [← l]; exact rel f)
  have W : PySem.W.InstAt s1.heap a { cls := .ref C, dict := some dx, data := .fields #[.ref t1, .none, .none, .none, .bool false, .none] } C (some od) := ⟨ho, rfl, rfl, hod⟩
  exact HandSPX.exc_get J.kIn W T.ga T.gg T.exC (PySem.W.findObj_own T.hdC no rfl (by rw [hl, hz])) (handed_of rz) ⟨v, H1, J.tok _, rz, q⟩

/-- at a stands an exception of the class at D -/
def IsX (H : Hp) (a D : Addr) : Prop := (∃ (dx : Addr) (fs : List (Str × V)), H a = some (exo a D (some dx)) ∧ H dx = some (exd dx fs)) ∨ H a = some (ExO (.ref D) a)
theorem IsX.inst {X : Cx} {pins : List (Addr × Obj)} {σ : St} {H : Hp} {s : Shared} {a D : Addr} (I : Inv X pins σ H s) (h : IsX H a D) : ∃ ox od, PySem.W.InstAt s.heap a ox D od := by
  rcases h with ⟨dx, fs, ea, ed⟩ | ea
  · obtain ⟨t1, ho⟩ := exo_at I.hok ea
    obtain ⟨mA, hns, _⟩ := exd_at I.hok ed
    obtain ⟨od, hod, _⟩ := lookIn_ns hns
    exact ⟨_, some od, ho, rfl, rfl, hod⟩
  · obtain ⟨⟨oe, vs, ho, hz, hd, _⟩, _, _⟩ := I.hok a _ ea
    obtain ⟨oc, odd, oda, osl⟩ := oe
    obtain ⟨h1, h2⟩ := hz
    dsimp only at h1 h2 hd
    subst h1 h2 hd
    exact ⟨_, none, ho, rfl, rfl, trivial⟩
/-- isinstance(x, c), x an exception that is held -/
def rIsX (K : PySem.W.Frag) : List V → Hp → VK → Prop := fun xs H Q => ∃ (a D : Addr) (c : V) (cv : Value) (b : Bool), xs = [.ref a, c] ∧ IsX H a D ∧ ExcC K D ∧ ClsV c cv ∧ PySem.W.kitOne K (.ref D) cv = some b ∧ Q (.bl b) H
theorem call_isX {X : Cx} : CallR X (.builtin "isinstance") (rIsX X.K) := by
  intro pins s σ H xs us Q I r h
  obtain ⟨a, D, c, cv, b, rfl, hx, C, k, e, q⟩ := h
  obtain ⟨u1, u2, rfl, r1, r2⟩ := vals2 r
  cases (show u1 = Value.ref a from r1)
  have e2 := k.eq r2
  subst e2
  obtain ⟨ox, od, J⟩ := hx.inst I
  obtain ⟨cd, hc, _⟩ := PySem.W.any_some C.hd
  exact PySem.W.kia_one (PySem.W.kitx_exc (by rw [hc]; rfl) C.hg C.hk C.hs C.ha C.hn C.ht C.hm) I.kIn J e (fun z => nomatch z) fun tk => ⟨.bl b, H, I.tok tk, rfl, q⟩
end L2.Fu
/-! ## The law's hand: a number and a count, from which it draws -/
namespace L2.Fu
open PySem PySem.Spec PyProof.Rows

/-- at p stands a hand of which at most n draws were taken; all of H0, where p is not, stands as it was -/
def Hand (H0 H : Hp) (p : Addr) (n : Nat) : Prop := Same H0 H ∧ H0 p = none ∧ ∃ g a c : Int, H p = some (.lst [.int g, .int a, .int c]) ∧ 0 ≤ a ∧ a < 2147483647 ∧ 0 ≤ c ∧ c ≤ (n : Int)
theorem Hand.at {H0 H : Hp} {p : Addr} {n : Nat} (h : Hand H0 H p n) : ∃ xs, H p = some (.lst xs) := by
  obtain ⟨_, _, g, a, c, e, _⟩ := h
  exact ⟨_, e⟩
theorem Hand.ne {H0 H : Hp} {p q : Addr} {n : Nat} (h : Hand H0 H p n) (f : H q = none) : q ≠ p := by
  obtain ⟨_, e⟩ := h.at
  exact fun z => by rw [z, e] at f; cases f
theorem Hand.mono {H0 H : Hp} {p : Addr} {m n : Nat} (h : Hand H0 H p m) (l : m ≤ n) : Hand H0 H p n := by
  obtain ⟨s, z, g, a, c, e, a0, a1, c0, c1⟩ := h
  exact ⟨s, z, g, a, c, e, a0, a1, c0, by omega⟩
/-- an object elsewhere is laid or changed: it is told -/
theorem Hand.upd {H0 H : Hp} {p q : Addr} {n : Nat} {o : HO} (h : Hand H0 H p n) (ne : q ≠ p) : Hand (upd H0 q o) (upd H q o) p n := by
  obtain ⟨s, z, g, a, c, e, r⟩ := h
  refine ⟨fun b u k => ?_, by rw [upd_ne (Ne.symm ne)]; exact z, g, a, c, by rw [upd_ne (Ne.symm ne)]; exact e, r⟩
  by_cases hb : b = q
  · subst hb
    rw [upd_same] at k ⊢
    exact k
  · rw [upd_ne hb] at k ⊢
    exact s b u k
/-- an object elsewhere that H0 doesn't tell of is laid or changed -/
theorem Hand.off {H0 H : Hp} {p q : Addr} {n : Nat} {o : HO} (h : Hand H0 H p n) (ne : q ≠ p) (f : H0 q = none) : Hand H0 (L2.upd H q o) p n := by
  obtain ⟨s, z, g, a, c, e, r⟩ := h
  refine ⟨fun b u k => ?_, z, g, a, c, by rw [upd_ne (Ne.symm ne)]; exact e, r⟩
  have hb : b ≠ q := fun t => by rw [t, f] at k; cases k
  rw [upd_ne hb]
  exact s b u k
/-- an object elsewhere is told of -/
theorem Hand.own {H0 H : Hp} {p q : Addr} {n : Nat} {o : HO} (h : Hand H0 H p n) (ne : q ≠ p) (f : H q = some o) : Hand (L2.upd H0 q o) H p n := by
  obtain ⟨s, z, r⟩ := h
  refine ⟨fun b u k => ?_, by rw [upd_ne (Ne.symm ne)]; exact z, r⟩
  by_cases hb : b = q
  · subst hb
    rw [upd_same] at k
    rw [f]
    exact k
  · rw [upd_ne hb] at k
    exact s b u k
theorem same_new {H : Hp} {q : Addr} {o : HO} (f : H q = none) : Same H (upd H q o) := fun b u k => by
  rw [upd_ne (ne_of_none k f)]
  exact k
/-- H without what stands at p -/
theorem same_del {H0 H : Hp} {p : Addr} (s : Same H0 H) (f : H0 p = none) : Same H0 (delH H p) := fun b u k => by
  have hb : b ≠ p := fun t => by rw [t, f] at k; cases k
  rw [delH_ne hb]
  exact s b u k
theorem del_sub {H : Hp} {p : Addr} : Same (delH H p) H := fun b u k => by
  by_cases hb : b = p
  · rw [hb, delH_same] at k
    cases k
  · rw [delH_ne hb] at k
    exact k
theorem Hand.full {H0 H : Hp} {p : Addr} {n : Nat} (h : Hand H0 H p n) : Hand (delH H p) H p n := by
  obtain ⟨_, _, r⟩ := h
  exact ⟨del_sub, delH_same, r⟩

/-- _law_hand(script, k) -/
def spHand (K : PySem.W.Frag) : Sp := fun vs H Q _ => ∃ (a : Addr) (ns : List Int) (k : Int), vs = [.ref a, .int k] ∧ SqL K H a (ns.map V.int) ∧ 0 ≤ k ∧ k ≤ 1000 ∧ ∀ (H' : Hp) (p : Addr), Hand H H' p 0 → Q (.ref p) H'
/-- _law_take(hand, m) -/
def spTake : Sp := fun vs H Q _ => ∃ (H0 : Hp) (p : Addr) (n : Nat) (m : Int), vs = [.ref p, .int m] ∧ 0 < m ∧ m < 2 ^ 60 ∧ n < 1000000000 ∧ Hand H0 H p n ∧ ∀ (H' : Hp) (d : Int), 0 ≤ d → d < m → Hand H0 H' p (n + 1) → Q (.int d) H'
/-- _law_of(hand, some) -/
def spOf (K : PySem.W.Frag) : Sp := fun vs H Q _ => ∃ (H0 : Hp) (p l : Addr) (n : Nat) (xs : List V), vs = [.ref p, .ref l] ∧ SqL K H0 l xs ∧ xs ≠ [] ∧ xs.length ≤ 1000000 ∧ n < 1000000000 ∧ Hand H0 H p n ∧ ∀ (H' : Hp) (v : V), v ∈ xs → Hand H0 H' p (n + 1) → Q v H'

theorem bit_small (b : Bool) : -(2 ^ 64) < (if b = true then (1 : Int) else 0) ∧ (if b = true then (1 : Int) else 0) < 2 ^ 64 := by cases b <;> decide
theorem big_pos : (0 : Int) < (10 : Int) ^ (60 : Int).toNat * (10 : Int) ^ (60 : Int).toNat * (10 : Int) ^ (60 : Int).toNat := by decide +kernel
theorem big_one : ((10 : Int) ^ (60 : Int).toNat).natAbs < 2 ^ 200 := by decide +kernel
theorem big_two : ((10 : Int) ^ (60 : Int).toNat * (10 : Int) ^ (60 : Int).toNat).natAbs < 2 ^ 400 := by decide +kernel
theorem prime_at (c : Int) (h0 : 0 ≤ c) : ∃ pr : Int, atI [V.int 2147483647, V.int 2147483629, V.int 2147483587, V.int 2147483579, V.int 2147483563] (c % 5) = some (V.int pr) ∧ 0 < pr ∧ pr < 2 ^ 32 := by
  have l0 : 0 ≤ c % 5 := Int.emod_nonneg _ (by decide)
  have l1 : c % 5 < 5 := Int.emod_lt_of_pos _ (by decide)
  generalize c % 5 = i at l0 l1
  obtain ⟨j, rfl⟩ := Int.eq_ofNat_of_zero_le l0
  have lj : j < 5 := by omega
  match j, lj with
  | 0, _ => exact ⟨2147483647, atI_nat rfl, by decide, by decide⟩
  | 1, _ => exact ⟨2147483629, atI_nat rfl, by decide, by decide⟩
  | 2, _ => exact ⟨2147483587, atI_nat rfl, by decide, by decide⟩
  | 3, _ => exact ⟨2147483579, atI_nat rfl, by decide, by decide⟩
  | 4, _ => exact ⟨2147483563, atI_nat rfl, by decide, by decide⟩
theorem small_pow {a c : Int} {n : Nat} (a0 : 0 ≤ a) (a1 : a < 2147483647) (c0 : 0 ≤ c) (c1 : c ≤ (n : Int)) (hn : n < 1000000000) : (a + 7919 * (c + 1)).natAbs < 2 ^ 64 := by omega
end L2.Fu
namespace L2.Fu
open PySem PySem.Spec PyProof.Rows
/-- a reading may be made stronger -/
theorem pe_imp {X : Cx} {e : Expr} {t : TE} (t' : TE) (p : PE X e t) (h : ∀ σ H Q, t' σ H Q → t σ H Q) : PE X e t' := ⟨fun pins s σ H Q I q => p.run pins s σ H Q I (h σ H Q q)⟩
/-- script[k] if k < len(script) else 0: some int -/
def tCell (K : PySem.W.Frag) : TE := fun σ H Q => ∃ (a : Addr) (ns : List Int) (k : Int), σ[0]? = some (some (.ref a)) ∧ σ[1]? = some (some (.int k)) ∧ SqL K H a (ns.map V.int) ∧ 0 ≤ k ∧ ∀ c : Int, Q (.int c) H
theorem atI_in {α : Type} {xs : List α} {i : Int} (h0 : 0 ≤ i) (h1 : i < (xs.length : Int)) : ∃ v, atI xs i = some v ∧ v ∈ xs := by
  obtain ⟨j, rfl⟩ := Int.eq_ofNat_of_zero_le h0
  have lj : j < xs.length := by omega
  exact ⟨xs[j], atI_nat (List.getElem?_eq_getElem lj), List.getElem_mem lj⟩
end L2.Fu
/-! ## How long what is shown is -/
namespace L2.Fu
open PySem PySem.Spec PyProof.Rows
structure ShowsAll (ds : List PyData) (n k : Nat) : Prop where
  can : PyData.showableAll ds = true
  few : piled (PyData.shownAll ds) ≤ n
  flat : PyData.depthAll ds ≤ k
theorem ShowsAll.nil (k : Nat) : ShowsAll [] 0 k := ⟨by simp only [PyData.showableAll], Nat.le_refl 0, Nat.zero_le k⟩
theorem ShowsAll.cons {d : PyData} {ds : List PyData} {n m k : Nat} (h : Shows d n k) (t : ShowsAll ds m k) : ShowsAll (d :: ds) (n + 2 + m) k :=
  ⟨by simp only [PyData.showableAll, h.can, t.can, Bool.and_self], by
      simp only [PyData.shownAll, piled_cons]
      have := h.few
      have := t.few
      omega, by
      simp only [PyData.depthAll]
      exact Nat.max_le.mpr ⟨h.flat, t.flat⟩⟩
theorem join_len (ts : List Str) : (Str.join ", " ts).length ≤ piled ts := by
  by_cases h : ts = []
  · subst h
    exact Nat.zero_le _
  · have := join_length_add ts h
    omega
theorem textFrom_le : ∀ (ts : List Str) (k : Nat) (acc : Str), (textFrom k acc ts).length ≤ acc.length + piled ts
  | [], k, acc => Nat.le_add_right _ _
  | t :: r, k, acc => by
    have ih := textFrom_le r (k + 1) (acc ++ (if k > 0 then ", " else "" : String) ++ t)
    have e : (acc ++ (if k > 0 then ", " else "" : String) ++ t).length ≤ acc.length + 2 + t.length := by
      rw [strLen_append, strLen_append]
      by_cases hk : k > 0
      · rw [if_pos hk]
        exact Nat.le_refl _
      · rw [if_neg hk]
        show acc.length + 0 + t.length ≤ _
        omega
    rw [piled_cons]
    show (textFrom (k + 1) (acc ++ (if k > 0 then ", " else "" : String) ++ t) r).length ≤ _
    omega
theorem Shows.lst {ds : List PyData} {n k : Nat} (h : ShowsAll ds n k) : Shows (.list ds) (n + 2) (k + 1) :=
  ⟨by simp only [PyData.showable, h.can], by
      simp only [PyData.shown]
      have e : (listText (PyData.shownAll ds)).length = (textFrom 0 "[" (PyData.shownAll ds)).length + 1 := by
        unfold listText
        rw [strLen_append]
        rfl
      have l := textFrom_le (PyData.shownAll ds) 0 "["
      have o : (("[" : String) : Str).length = 1 := rfl
      have := h.few
      rw [o] at l
      omega, by
      simp only [PyData.depth]
      exact Nat.succ_le_succ h.flat⟩
theorem Shows.tup {ds : List PyData} {n k : Nat} (h : ShowsAll ds n k) : Shows (.tuple ds) (n + 3) (k + 1) :=
  ⟨by simp only [PyData.showable, h.can], by
      simp only [PyData.shown]
      have e : (tupleText (PyData.shownAll ds)).length ≤ 1 + (Str.join ", " (PyData.shownAll ds)).length + 2 := by
        unfold tupleText
        rw [strLen_append, strLen_append]
        by_cases hk : ((PyData.shownAll ds).length == 1) = true
        · rw [if_pos hk]
          exact Nat.le_refl _
        · rw [if_neg hk]
          show 1 + _ + 1 ≤ _
          omega
      have l := join_len (PyData.shownAll ds)
      have := h.few
      omega, by
      simp only [PyData.depth]
      exact Nat.succ_le_succ h.flat⟩
theorem Shows.more {d : PyData} {n k n' k' : Nat} (h : Shows d n k) (a : n ≤ n') (b : k ≤ k') : Shows d n' k' := ⟨h.can, Nat.le_trans h.few a, Nat.le_trans h.flat b⟩
theorem ShowsAll.more {d : List PyData} {n k n' k' : Nat} (h : ShowsAll d n k) (a : n ≤ n') (b : k ≤ k') : ShowsAll d n' k' := ⟨h.can, Nat.le_trans h.few a, Nat.le_trans h.flat b⟩
theorem Shows.dic1 {x : Str} {d : PyData} {n k : Nat} (hx : (reprText x).length ≤ 20) (h : Shows d n k) : Shows (.dict [(.str x, d)]) (n + 24) (k + 1) :=
  ⟨by simp only [PyData.showable, PyData.showableKv, h.can, Bool.and_self], by
      simp only [PyData.shown, PyData.shownKv]
      have e : (dictText [reprText x ++ ": " ++ d.shown]).length = 1 + ((reprText x).length + 2 + d.shown.length) + 1 := by
        unfold dictText
        rw [strLen_append, strLen_append]
        show 1 + (reprText x ++ ": " ++ d.shown).length + 1 = _
        rw [strLen_append, strLen_append]
        rfl
      have := h.few
      omega, by
      simp only [PyData.depth, PyData.depthKv]
      have := h.flat
      omega⟩
theorem same_two {H : Hp} {q : Addr} {o u : HO} (f : H q = none) : Same H (upd (upd H q o) q u) := fun b x k => by
  rw [upd_ne (ne_of_none k f), upd_ne (ne_of_none k f)]
  exact k
/-- some data that is shown in at most 40 signs -/
def Dat (H : Hp) (v : V) : Prop := ∃ d, Da H v d ∧ Shows d 60 4
theorem Dat.mono {H H' : Hp} {v : V} (s : Same H H') (h : Dat H v) : Dat H' v := by
  obtain ⟨d, a, b⟩ := h
  exact ⟨d, a.mono s, b⟩
theorem dat_non {H : Hp} : Dat H .non := ⟨_, .non, by decide +kernel, by decide +kernel, by decide +kernel⟩
theorem dat_bl {H : Hp} (b : Bool) : Dat H (.bl b) := ⟨_, .bl b, by cases b <;> decide +kernel, by cases b <;> decide +kernel, by cases b <;> decide +kernel⟩
theorem dat_int {H : Hp} (i : Int) (h1 : i.natAbs.log2 < 1920) (h2 : (PyData.int i).shown.length ≤ 60) : Dat H (.int i) := ⟨_, .int i, by simp only [PyData.showable, h1, decide_true], h2, by simp only [PyData.depth]; omega⟩
theorem shows_str {x : Str} {n k : Nat} (h : (reprText x).length ≤ n) : Shows (.str x) n k := ⟨by simp only [PyData.showable], by simp only [PyData.shown]; exact h, by simp only [PyData.depth]; exact Nat.zero_le _⟩
theorem dat_str {H : Hp} (x : Str) (h : (reprText x).length ≤ 60) : Dat H (.str x) := ⟨_, .str x, shows_str h⟩
end L2.Fu
/-! ## enumerate over a list -/
namespace L2.Fu
open PySem PySem.Spec PyProof.Rows
theorem for_enum {K : PySem.W.Frag} {a : Addr} {xs : List V} {g : TG} {tb : TS} {D : Ends} {σ : St} {H : Hp} (Pv : Nat → St → Hp → Prop) (h0 : Pv 0 σ H) (hl : ∀ i σ H, Pv i σ H → SqL K H a xs)
    (hs : ∀ i x T σ H, xs[i]? = some x → H T = none → Pv i σ H → g (.ref T) σ (upd H T (.tup [.int ((i : Nat) : Int), x])) fun σ2 H2 => tb { D with nx := Pv (i + 1), ct := Pv (i + 1), bk := D.nx } σ2 H2) (hd : ∀ σ H, Pv xs.length σ H → D.nx σ H) :
    ∃ W : Nat → Nat → St → Hp → Prop, (∃ m, W 0 m σ H) ∧ ∀ i m σ H, W i m σ H →
      ((Ite K a).stop i H ∧ D.nx σ H) ∨ ((Ite K a).go i H ∧ ∃ N : St → Hp → Prop, (∀ σ' H', N σ' H' → ∃ m', m' < m ∧ W (i + 1) m' σ' H') ∧ ∀ x H', (Ite K a).yld i H x H' → g x σ H' fun σ2 H2 => tb { D with nx := N, ct := N, bk := D.nx } σ2 H2) := by
  refine ⟨fun i m σ H => m + i = xs.length ∧ Pv i σ H, ⟨xs.length, rfl, h0⟩, ?_⟩
  rintro i m σ H ⟨hm, pv⟩
  have q := hl i σ H pv
  by_cases lt : i < xs.length
  · have at_i : xs[i]? = some xs[i] := List.getElem?_eq_getElem lt
    refine .inr ⟨⟨xs, xs[i], q, at_i⟩, Pv (i + 1), fun σ' H' p' => ⟨m - 1, by omega, by omega, p'⟩, ?_⟩
    rintro x H' ⟨T, y, rfl, nT, rfl, hy⟩
    exact hs i y T σ H (hy xs q) nT pv
  · obtain rfl : i = xs.length := by omega
    exact .inl ⟨⟨xs, q, Nat.le_refl _⟩, hd σ H pv⟩
theorem lc_enum {K : PySem.W.Frag} {a : Addr} {xs : List V} {g : TG} {tt : TT} {te : TE} {vs : List Nat} {σ : St} {H1 : Hp} {D : Addr} {Qd : Hp → Prop} (Pv : Nat → Hp → Prop) (h0 : Pv 0 (upd H1 D (.lst []))) (hl : ∀ i H, Pv i H → SqL K H a xs)
    (hs : ∀ i x T H, xs[i]? = some x → H T = none → Pv i H → g (.ref T) (wipe σ vs) (upd H T (.tup [.int ((i : Nat) : Int), x])) fun σ2 H2 => wipe σ2 vs = wipe σ vs ∧ tt σ2 H2 fun b H3 =>
      if b = true then te σ2 H3 fun y H4 => ∃ acc, H4 D = some (.lst acc) ∧ acc.length < sizeLine ∧ Pv (i + 1) (upd H4 D (.lst (acc ++ [y]))) else Pv (i + 1) H3) (hd : ∀ H, Pv xs.length H → Qd H) :
    ∃ W : Nat → Nat → Hp → Prop, (∃ m, W 0 m (upd H1 D (.lst []))) ∧ ∀ i m H, W i m H →
      ((Ite K a).stop i H ∧ Qd H) ∨ ((Ite K a).go i H ∧ ∃ Nx : Hp → Prop, (∀ H', Nx H' → ∃ m', m' < m ∧ W (i + 1) m' H') ∧ ∀ x H', (Ite K a).yld i H x H' → g x (wipe σ vs) H' fun σ2 H2 => wipe σ2 vs = wipe σ vs ∧ tt σ2 H2 fun b H3 =>
        if b = true then te σ2 H3 fun y H4 => ∃ acc, H4 D = some (.lst acc) ∧ acc.length < sizeLine ∧ Nx (upd H4 D (.lst (acc ++ [y]))) else Nx H3) := by
  refine ⟨fun i m H => m + i = xs.length ∧ Pv i H, ⟨xs.length, rfl, h0⟩, ?_⟩
  rintro i m H ⟨hm, pv⟩
  have q := hl i H pv
  by_cases lt : i < xs.length
  · have at_i : xs[i]? = some xs[i] := List.getElem?_eq_getElem lt
    refine .inr ⟨⟨xs, xs[i], q, at_i⟩, Pv (i + 1), fun H' p' => ⟨m - 1, by omega, by omega, p'⟩, ?_⟩
    rintro x H' ⟨T, y, rfl, nT, rfl, hy⟩
    exact hs i y T H (hy xs q) nT pv
  · obtain rfl : i = xs.length := by omega
    exact .inl ⟨⟨xs, q, Nat.le_refl _⟩, hd H pv⟩
end L2.Fu
/-! ## The text by places -/
namespace L2.Fu
open PySem PySem.Spec PyProof.Rows
def top (i : Nat) : Stmt := PySem.Challenge.pw_featureunion_k81_exceptions_of_any_value.main.body.getD i (.Pass ⟨0, 0, 0, 0⟩)
abbrev sHand : Stmt := top 18
abbrev sTake : Stmt := top 19
abbrev sOf : Stmt := top 20
abbrev sOdd : Stmt := top 21
abbrev sFlags : Stmt := top 22
abbrev sMade : Stmt := top 23
abbrev sAlone : Stmt := top 24
abbrev sRight : Stmt := top 25
abbrev sLaw : Stmt := top 26
abbrev ofN : Str := "_law_hand_here"
abbrev ofS : Str := "_law_some"
end L2.Fu
/-! ## The law's small defs -/
namespace L2.Fu
open PySem PySem.Spec PyProof.Rows
section
variable {P : Program} {w : World} {K : PySem.W.Frag} {mg : Str → Option Value} {base : Heap}
theorem scHand : FnScope ["_law_script", "_law_k", "_law_cell", "_law_great"] ["_law_script", "_law_k"] (defScope sHand) := ⟨rfl, rfl, rfl, by decide +kernel, rfl, by decide +kernel, by decide +kernel⟩
theorem ok_hand {f : Addr} {fd : FuncData} (F : Fun K "_law_hand" "_law_hand" sHand f fd) (zLen : mg "len" = none) (zAbs : mg "abs" = none) (zInt : mg "int" = none) : FnOk P w K mg base CX0 1 f fd ["_law_script", "_law_k"] (spHand K) := by
  refine F.ok scHand (fun vs H Q E h => ?_) (fun cdv A outer s H vs Q E hr h => ?_)
  · obtain ⟨a, ns, k, rfl, _⟩ := h
    rfl
  · obtain ⟨a, ns, k, rfl, hS, k0, k1, q⟩ := h
    refine ⟨_, pss_cons (ps_set (i := 2) scHand.nd rfl (.inl rfl) (pe_imp (tCell K) (pe_ifExp (pt_cmpR op_lt (pv 1) (pe_callB call_len_seq (by rfl) zLen PySem.boot_len (pa_cons (pv 0) pa_nil)) (nomark _)) (pe_ix ix_list (pv 0) (pv 1) (fun _ _ => rfl)) pe_int) ?cell))
      (pss_cons (ps_set (i := 3) scHand.nd rfl (.inl rfl) (pe_op op_mul (pe_op op_mod (pe_callB call_abs (by rfl) zAbs (by decide +kernel) (pa_cons (pv 2) pa_nil))
          (pe_op op_mulW (pe_op op_mulW (pe_op op_pow pe_int pe_int) (pe_op op_pow pe_int pe_int)) (pe_op op_pow pe_int pe_int)))
        (pe_callTy call_int1 (by rfl) zInt (by decide +kernel) (pa_cons (pe_cmpR op_ge (pe_callB call_abs (by rfl) zAbs (by decide +kernel) (pa_cons (pv 2) pa_nil)) (pe_op op_pow pe_int pe_int) (nomark _)) pa_nil))))
      (pss_one (ps_ret (pe_lst (pa_cons (pv 3) (pa_cons (pe_op op_mod (pe_op op_mul (pe_op op_add (pe_op op_add (pe_op op_mod (pv 2) pe_int) (pe_op op_mul pe_int (pv 1))) pe_int) pe_int) pe_int) (pa_cons pe_int pa_nil))))))), ?_⟩
    case cell =>
      rintro σ H1 Q1 ⟨a, ns, k, e0, e1, hs, h0, hq⟩
      refine ⟨_, e1, _, e0, a, _, rfl, .inl hs, _, _, rfl, rfl, _, rfl, ite2 (fun hc => ?_) (fun hc => hq 0)⟩
      have hlt : k < ((ns.map V.int).length : Int) := of_decide_eq_true hc
      obtain ⟨v, hv, hm⟩ := atI_in h0 hlt
      obtain ⟨c, _, rfl⟩ := List.mem_map.mp hm
      exact ⟨_, e0, _, e1, a, _, k, _, rfl, rfl, hs, hv, hq c⟩
    refine ⟨a, ns, k, rfl, rfl, hS, k0, fun cell => ?_⟩
    refine ⟨_, rfl, cell, rfl, _, _, rfl, rfl, ⟨by decide, by decide, by decide⟩, _, _, rfl, rfl, ⟨by decide, by decide, by decide⟩, _, _, rfl, rfl, wide_mul big_one big_one (by decide) (by decide) (by decide), _, _, rfl, rfl, ⟨by decide, by decide, by decide⟩,
      _, _, rfl, rfl, wide_mul big_two big_one (by decide) (by decide) (by decide), _, _, rfl, rfl, big_pos, _, rfl, cell, rfl, _, _, rfl, rfl, ⟨by decide, by decide, by decide⟩, _, _, rfl, rfl, .inr ⟨_, rfl, _, _, rfl, rfl, .inr ?_, ?_⟩⟩
    · exact bit_small _
    · refine ⟨_, rfl, _, rfl, _, _, rfl, rfl, (by show (0 : Int) < 2147483629; decide), _, rfl, _, _, rfl, rfl, .inl ⟨by decide, by decide⟩, _, _, rfl, rfl, _, _, rfl, rfl, _, _, rfl, rfl, .inr ⟨by decide, by decide⟩, _, _, rfl, rfl, (by show (0 : Int) < 2147483647; decide), (by show 3 ≤ sizeLine; decide), fun p np => ?_⟩
      exact q _ p ⟨same_new np, np, _, _, _, upd_same, Int.emod_nonneg _ (by decide), Int.emod_lt_of_pos _ (by decide), Int.le_refl _, Int.le_refl _⟩
theorem scTake : FnScope ["_law_hand_here", "_law_many", "_law_digit", "_law_prime", "_law_drawn"] ["_law_hand_here", "_law_many"] (defScope sTake) := ⟨rfl, rfl, rfl, by decide +kernel, rfl, by decide +kernel, by decide +kernel⟩
theorem ok_take {f : Addr} {fd : FuncData} (F : Fun K "_law_take" "_law_take" sTake f fd) : FnOk P w K mg base CX0 1 f fd ["_law_hand_here", "_law_many"] spTake := by
  refine F.ok scTake (fun vs H Q E h => ?_) (fun cdv A outer s H vs Q E hr h => ?_)
  · obtain ⟨H0, p, n, m, rfl, _⟩ := h
    rfl
  · obtain ⟨H0, p, n, m, rfl, m0, m1, hn, ⟨s0, z, g, a, c, e, a0, a1, c0, c1⟩, q⟩ := h
    have stays : ∀ (o : HO), Same H0 (L2.upd H p o) := fun o b u k => by
      have hb : b ≠ p := fun t => by rw [t, z] at k; cases k
      rw [upd_ne hb]
      exact s0 b u k
    refine ⟨_, pss_cons (ps_if (pt_cmpR op_gt (pe_ix ix_list (pv 0) pe_int (fun _ _ => rfl)) pe_int (nomark _))
        (pss_cons (ps_set (i := 2) scTake.nd rfl (.inl rfl) (pe_op op_mod (pe_ix ix_list (pv 0) pe_int (fun _ _ => rfl)) (pv 1)))
          (pss_cons (ps_asg (pe_op op_fdivW (pe_ix ix_list (pv 0) pe_int (fun _ _ => rfl)) (pv 1)) (pg_sub (pv 0) pe_int set_list)) (pss_one (ps_ret (pv 2))))) pss_nil)
      (pss_cons (ps_asg (pe_op op_add (pe_ix ix_list (pv 0) pe_int (fun _ _ => rfl)) pe_int) (pg_sub (pv 0) pe_int set_list))
      (pss_cons (ps_set (i := 3) scTake.nd rfl (.inl rfl) (pe_ix ix_list (pe_lst (pa_cons pe_int (pa_cons pe_int (pa_cons pe_int (pa_cons pe_int (pa_cons pe_int pa_nil)))))) (pe_op op_mod (pe_ix ix_list (pv 0) pe_int (fun _ _ => rfl)) pe_int) (fun _ _ => rfl)))
      (pss_cons (ps_set (i := 4) scTake.nd rfl (.inl rfl) (pe_op op_mod (pe_op op_pow (pe_op op_add (pe_ix ix_list (pv 0) pe_int (fun _ _ => rfl)) (pe_op op_mul pe_int (pe_ix ix_list (pv 0) pe_int (fun _ _ => rfl)))) pe_int) (pv 3)))
      (pss_one (ps_ret (pe_op op_mod (pe_op op_fdiv (pe_op op_mod (pe_op op_mul (pv 4) (pe_op op_add (pe_op op_mod (pv 4) pe_int) (pe_ix ix_list (pv 0) pe_int (fun _ _ => rfl)))) (pv 3)) pe_int) (pv 1))))))), ?_⟩
    have i0 : ∀ x y u : V, atI [x, y, u] 0 = some x := fun _ _ _ => rfl
    have i1 : ∀ x y u : V, atI [x, y, u] 1 = some y := fun _ _ _ => rfl
    have i2 : ∀ x y u : V, atI [x, y, u] 2 = some u := fun _ _ _ => rfl
    refine ⟨_, rfl, p, _, _, _, rfl, rfl, SqL.of e, i0 _ _ _, _, _, rfl, rfl, _, rfl, ite2 (fun hc => ?_) (fun hc => ?_)⟩
    · refine ⟨_, rfl, p, _, _, _, rfl, rfl, SqL.of e, i0 _ _ _, _, rfl, _, _, rfl, rfl, m0, ?_⟩
      refine ⟨_, rfl, p, _, _, _, rfl, rfl, SqL.of e, i0 _ _ _, _, rfl, _, _, rfl, rfl, wide_div m0 (b := 60) (by omega) (by decide) (by decide), _, rfl, p, _, _, 0, rfl, rfl, e, rfl, ?_⟩
      refine ⟨_, rfl, q _ _ (Int.emod_nonneg _ (by omega)) (Int.emod_lt_of_pos _ m0) ⟨stays _, z, _, a, c, upd_same, a0, a1, c0, by omega⟩⟩
    · refine ⟨_, rfl, p, _, _, _, rfl, rfl, SqL.of e, i2 _ _ _, _, _, rfl, rfl, _, rfl, p, _, _, 2, rfl, rfl, e, rfl, ?_⟩
      obtain ⟨pr, hpr, pr0, pr1⟩ := prime_at (c + 1) (by omega)
      refine ⟨(by show 5 ≤ sizeLine; decide), fun r nr => ?_⟩
      have nrp : p ≠ r := ne_of_none (upd_same (H := H) (a := p) (o := .lst [.int g, .int a, .int (c + 1)])) nr
      have e2 : L2.upd (L2.upd H p (.lst [.int g, .int a, .int (c + 1)])) r (.lst [.int 2147483647, .int 2147483629, .int 2147483587, .int 2147483579, .int 2147483563]) p = some (.lst [.int g, .int a, .int (c + 1)]) := by
        rw [upd_ne nrp, upd_same]
      refine ⟨_, rfl, p, _, _, _, rfl, rfl, SqL.of e2, i2 _ _ _, _, _, rfl, rfl, (by show (0 : Int) < 5; decide), r, _, _, _, rfl, rfl, SqL.of upd_same, hpr, ?_⟩
      refine ⟨_, rfl, p, _, _, _, rfl, rfl, SqL.of e2, i1 _ _ _, _, rfl, p, _, _, _, rfl, rfl, SqL.of e2, i2 _ _ _, _, _, rfl, rfl, .inl ⟨by decide, by decide⟩, _, _, rfl, rfl, _, _, rfl, rfl, ⟨by decide, by decide, small_pow a0 a1 c0 c1 hn⟩, _, rfl, _, _, rfl, rfl, pr0, ?_⟩
      have d0 : 0 ≤ (a + 7919 * (c + 1)) ^ (3 : Int).toNat % pr := Int.emod_nonneg _ (by omega)
      have d1 : (a + 7919 * (c + 1)) ^ (3 : Int).toNat % pr < pr := Int.emod_lt_of_pos _ pr0
      refine ⟨_, rfl, _, rfl, _, _, rfl, rfl, (by show (0 : Int) < 1009; decide), _, rfl, p, _, _, _, rfl, rfl, SqL.of e2, i2 _ _ _, _, _, rfl, rfl, _, _, rfl, rfl, .inl ⟨by omega, by omega⟩, _, rfl, _, _, rfl, rfl, pr0, _, _, rfl, rfl, ⟨by decide, by decide⟩, _, rfl, _, _, rfl, rfl, m0, ?_⟩
      refine q _ _ (Int.emod_nonneg _ (by omega)) (Int.emod_lt_of_pos _ m0) ⟨fun b u k => ?_, z, g, a, c + 1, e2, a0, a1, by omega, by omega⟩
      have k2 := stays (.lst [.int g, .int a, .int (c + 1)]) b u k
      rw [upd_ne (ne_of_none k2 nr)]
      exact k2
theorem scOf : FnScope [ofN, ofS] [ofN, ofS] (defScope sOf) := ⟨rfl, rfl, rfl, by decide +kernel, rfl, by decide +kernel, by decide +kernel⟩
theorem ok_of {f fT : Addr} {fd fdT : FuncData} (F : Fun K "_law_of" "_law_of" sOf f fd) (GT : FnOk P w K mg base CX0 1 fT fdT ["_law_hand_here", "_law_many"] spTake) (mT : mg "_law_take" = some (.ref fT)) (kT : PySem.W.keepIn K (.ref fT) = true) (bT : Binds K fdT ["_law_hand_here", "_law_many"] []) (zLen : mg "len" = none) :
    FnOk P w K mg base CX0 2 f fd [ofN, ofS] (spOf K) := by
  refine F.ok scOf (fun vs H Q E h => ?_) (fun cdv A outer s H vs Q E hr h => ?_)
  · obtain ⟨H0, p, l, n, xs, rfl, _⟩ := h
    rfl
  · obtain ⟨H0, p, l, n, xs, rfl, hS, x0, x1, hn, hh, q⟩ := h
    refine ⟨_, pss_one (ps_ret (pe_ix ix_list (pv 1) (pe_call GT hr rfl mT kT bT .nil pass0 (pa_cons (pv 0) (pa_cons (pe_callB call_len_seq (by rfl) zLen PySem.boot_len (pa_cons (pv 1) pa_nil)) pa_nil))) (fun _ _ => rfl))), ?_⟩
    have len0 : 0 < xs.length := List.length_pos_iff.mpr x0
    refine ⟨_, rfl, _, rfl, _, rfl, l, xs, rfl, .inl (hh.1.seq hS), H0, p, n, (xs.length : Int), rfl, by omega, by omega, hn, hh, fun H' d d0 d1 hh' => ?_⟩
    obtain ⟨v, hv, hm⟩ := atI_in d0 d1
    exact ⟨l, xs, d, v, rfl, rfl, hh'.1.seq hS, hv, q H' v hm hh'⟩
end
end L2.Fu
/-! ## Objects of many kinds -/
namespace L2.Fu
open PySem PySem.Spec PyProof.Rows
def spOdd : Sp := fun vs H Q _ => ∃ (H0 : Hp) (p : Addr) (n : Nat), vs = [.ref p] ∧ n < 100000000 ∧ Hand H0 H p n ∧
  ∀ (H1 H' : Hp) (v : V) (d : PyData), Same H0 H1 → Hand H1 H' p (n + 30) → Da H1 v d → Shows d 2000 40 → Q v H'
section
variable {P : Program} {w : World} {K : PySem.W.Frag} {mg : Str → Option Value} {base : Heap}
theorem scOdd : FnScope ["_law_hand_here", "_law_some", "_law_found", "_law_turn"] ["_law_hand_here"] (defScope sOdd) := ⟨rfl, rfl, rfl, by decide +kernel, rfl, by decide +kernel, by decide +kernel⟩
theorem ok_odd {f fO : Addr} {fd fdO : FuncData} (F : Fun K "_law_odd" "_law_odd" sOdd f fd) (GO : FnOk P w K mg base CX0 2 fO fdO [ofN, ofS] (spOf K)) (mO : mg "_law_of" = some (.ref fO)) (kO : PySem.W.keepIn K (.ref fO) = true) (bO : Binds K fdO [ofN, ofS] []) (zRange : mg "range" = none) :
    FnOk P w K mg base CX0 3 f fd ["_law_hand_here"] spOdd := by
  refine F.ok scOdd (fun vs H Q E h => ?_) (fun cdv A outer s H vs Q E hr h => ?_)
  · obtain ⟨H0, p, n, rfl, _⟩ := h
    rfl
  · obtain ⟨H0, p, n, rfl, hn, hh, q⟩ := h
    refine ⟨_, pss_cons (ps_set (i := 1) scOdd.nd rfl (.inl rfl) (pe_lst (pa_cons pe_non (pa_cons pe_bl (pa_cons pe_bl (pa_cons pe_int (pa_cons pe_int (pa_cons (pe_un un_neg pe_int) (pa_cons (pe_op op_pow pe_int pe_int) (pa_cons pe_str (pa_cons pe_str (pa_cons pe_str
        (pa_cons (pe_tup pa_nil) (pa_cons (pe_lstN pa_nil) (pa_cons pe_dnewK (pa_cons (pe_tup (pa_cons pe_str pa_nil)) (pa_cons (pe_lstN (pa_cons pe_str pa_nil)) (pa_cons (pe_tup (pa_cons pe_str (pa_cons pe_str pa_nil))) pa_nil))))))))))))))))))
      (pss_cons (ps_expr (pe_bm PySem.F.plainAttrs_list PySem.F.slot_list_append PySem.F.type_list_append mt_append (pv 1) (pa_cons (pe_tup (pa_cons pe_str pa_nil)) pa_nil)))
      (pss_cons (ps_set (i := 2) scOdd.nd rfl (.inl rfl) (pe_call GO hr rfl mO kO bO .nil pass0 (pa_cons (pv 0) (pa_cons (pv 1) pa_nil))))
      (pss_cons (ps_for PassesOwn.never rfl (pi_range1 (by rfl) zRange (pa_cons (pe_call GO hr rfl mO kO bO .nil pass0 (pa_cons (pv 0) (pa_cons (pe_lst (pa_cons pe_int (pa_cons pe_int (pa_cons pe_int (pa_cons pe_int (pa_cons pe_int pa_nil)))))) pa_nil))) pa_nil)) (pg_name (i := 3) scOdd.nd rfl (.inl rfl))
        (pss_one (ps_set (i := 2) scOdd.nd rfl (.inl rfl) (pe_call GO hr rfl mO kO bO .nil pass0 (pa_cons (pv 0) (pa_cons (pe_lst (pa_cons (pe_tup (pa_cons (pv 2) pa_nil)) (pa_cons (pe_lstN (pa_cons (pv 2) pa_nil))
          (pa_cons (pe_disp (pps_cons pe_str (pv 2) pps_nil) rfl rfl (by simp) (by decide)) (pa_cons (pe_tup (pa_cons pe_str (pa_cons (pv 2) pa_nil))) pa_nil))))) pa_nil))))))
      (pss_one (ps_ret (pv 2)))))), ?_⟩
    -- the sixteen things
    refine ⟨_, rfl, _, _, rfl, rfl, ⟨by decide, by decide, by decide⟩, Nat.zero_le _, fun q1 n1 => ⟨Nat.zero_le _, fun q2 n2 u2 => ?_⟩⟩
    have h1 := hh.upd (o := .tup []) (hh.ne n1)
    have t1 : Same H0 (upd H0 q1 (.tup [])) := same_new (hh.1.free n1)
    have a1 : Dat (upd H0 q1 (.tup [])) (.ref q1) := ⟨_, .tup upd_same .nil, (Shows.tup (.nil 0)).more (by decide) (by decide)⟩
    generalize upd H0 q1 (.tup []) = G1 at h1 t1 a1
    have h2 := h1.upd (o := .lst []) (h1.ne n2)
    have t2 : Same G1 (upd G1 q2 (.lst [])) := same_new (h1.1.free n2)
    have a2 : Dat (upd G1 q2 (.lst [])) (.ref q2) := ⟨_, .lst upd_same u2 .nil, (Shows.lst (.nil 0)).more (by decide) (by decide)⟩
    generalize upd G1 q2 (.lst []) = G2 at h2 t2 a2
    intro q3 n3
    have h3 := h2.upd (o := .dK []) (h2.ne n3)
    have t3 : Same G2 (upd G2 q3 (.dK [])) := same_new (h2.1.free n3)
    have a3 : Dat (upd G2 q3 (.dK [])) (.ref q3) := ⟨_, .dic upd_same .nil, by decide +kernel, by decide +kernel, by decide +kernel⟩
    generalize upd G2 q3 (.dK []) = G3 at h3 t3 a3
    refine ⟨(by show 1 ≤ sizeLine; decide), fun q4 n4 => ?_⟩
    have h4 := h3.upd (o := .tup [.str "a"]) (h3.ne n4)
    have t4 : Same G3 (upd G3 q4 (.tup [.str "a"])) := same_new (h3.1.free n4)
    have a4 : Dat (upd G3 q4 (.tup [.str "a"])) (.ref q4) := ⟨_, .tup upd_same (.cons (.str _) .nil), (Shows.tup (.cons (shows_str (n := 3) (k := 0) (by decide +kernel)) (.nil 0))).more (by decide) (by decide)⟩
    generalize upd G3 q4 (.tup [.str "a"]) = G4 at h4 t4 a4
    refine ⟨(by show 1 ≤ sizeLine; decide), fun q5 n5 u5 => ?_⟩
    have h5 := h4.upd (o := .lst [.str "a"]) (h4.ne n5)
    have t5 : Same G4 (upd G4 q5 (.lst [.str "a"])) := same_new (h4.1.free n5)
    have a5 : Dat (upd G4 q5 (.lst [.str "a"])) (.ref q5) := ⟨_, .lst upd_same u5 (.cons (.str _) .nil), (Shows.lst (.cons (shows_str (n := 3) (k := 0) (by decide +kernel)) (.nil 0))).more (by decide) (by decide)⟩
    generalize upd G4 q5 (.lst [.str "a"]) = G5 at h5 t5 a5
    refine ⟨(by show 2 ≤ sizeLine; decide), fun q6 n6 => ?_⟩
    have h6 := h5.upd (o := .tup [.str "feature", .str "a"]) (h5.ne n6)
    have t6 : Same G5 (upd G5 q6 (.tup [.str "feature", .str "a"])) := same_new (h5.1.free n6)
    have a6 : Dat (upd G5 q6 (.tup [.str "feature", .str "a"])) (.ref q6) := ⟨_, .tup upd_same (.cons (.str _) (.cons (.str _) .nil)), (Shows.tup (.cons (shows_str (n := 9) (k := 0) (by decide +kernel)) (.cons (shows_str (n := 3) (k := 0) (by decide +kernel)) (.nil 0)))).more (by decide) (by decide)⟩
    generalize upd G5 q6 (.tup [.str "feature", .str "a"]) = G6 at h6 t6 a6
    refine ⟨(by show 16 ≤ sizeLine; decide), fun l nl => ?_⟩
    have lp : l ≠ p := h6.ne nl
    have hl := h6.off (o := .lst [.non, .bl true, .bl false, .int 0, .int 1, .int (-1), .int (10 ^ (30 : Int).toNat), .str "", .str "a", .str "lock", .ref q1, .ref q2, .ref q3, .ref q4, .ref q5, .ref q6]) lp (h6.1.free nl)
    refine ⟨_, rfl, .inl ⟨rfl, _, SqL.of upd_same⟩, (by show 1 ≤ sizeLine; decide), fun q8 n8 => ?_⟩
    have l8 : l ≠ q8 := ne_of_none upd_same n8
    have f8 : G6 q8 = none := hl.1.free n8
    have h8 := hl.upd (o := .tup [.str "all"]) (hl.ne n8)
    have t8 : Same G6 (upd G6 q8 (.tup [.str "all"])) := same_new f8
    have a8 : Dat (upd G6 q8 (.tup [.str "all"])) (.ref q8) := ⟨_, .tup upd_same (.cons (.str _) .nil), (Shows.tup (.cons (shows_str (n := 5) (k := 0) (by decide +kernel)) (.nil 0))).more (by decide) (by decide)⟩
    have f9 : upd G6 q8 (.tup [.str "all"]) l = none := by rw [upd_ne l8]; exact h6.1.free nl
    generalize upd G6 q8 (.tup [.str "all"]) = G8 at h8 t8 a8 f9
    refine ⟨l, _, _, rfl, rfl, (by rw [upd_ne l8, upd_same]), (by show 16 < sizeLine; decide), ?_⟩
    have h9 := h8.off (o := .lst [.non, .bl true, .bl false, .int 0, .int 1, .int (-1), .int (10 ^ (30 : Int).toNat), .str "", .str "a", .str "lock", .ref q1, .ref q2, .ref q3, .ref q4, .ref q5, .ref q6, .ref q8]) lp f9
    have t18 : Same G1 G8 := t2.trans (t3.trans (t4.trans (t5.trans (t6.trans t8))))
    have all : ∀ v ∈ [V.non, .bl true, .bl false, .int 0, .int 1, .int (-1), .int (10 ^ (30 : Int).toNat), .str "", .str "a", .str "lock", .ref q1, .ref q2, .ref q3, .ref q4, .ref q5, .ref q6, .ref q8], Dat G8 v := by
      intro v hv
      simp only [List.mem_cons, List.not_mem_nil, or_false] at hv
      rcases hv with rfl | rfl | rfl | rfl | rfl | rfl | rfl | rfl | rfl | rfl | rfl | rfl | rfl | rfl | rfl | rfl | rfl
      · exact dat_non
      · exact dat_bl _
      · exact dat_bl _
      · exact dat_int _ (by decide +kernel) (by decide +kernel)
      · exact dat_int _ (by decide +kernel) (by decide +kernel)
      · exact dat_int _ (by decide +kernel) (by decide +kernel)
      · exact dat_int _ (by decide +kernel) (by decide +kernel)
      · exact dat_str _ (by decide +kernel)
      · exact dat_str _ (by decide +kernel)
      · exact dat_str _ (by decide +kernel)
      · exact a1.mono t18
      · exact a2.mono (t3.trans (t4.trans (t5.trans (t6.trans t8))))
      · exact a3.mono (t4.trans (t5.trans (t6.trans t8)))
      · exact a4.mono (t5.trans (t6.trans t8))
      · exact a5.mono (t6.trans t8)
      · exact a6.mono t8
      · exact a8
    -- the first draw
    refine ⟨_, rfl, _, rfl, upd G8 l _, p, l, n, _, rfl, SqL.of upd_same, (by simp), (by show 17 ≤ 1000000; decide), (by omega), h9.own lp upd_same, fun HA v hv hA => ?_⟩
    obtain ⟨d, da, ds⟩ := (all v hv).mono (same_new (o := .lst [.non, .bl true, .bl false, .int 0, .int 1, .int (-1), .int (10 ^ (30 : Int).toNat), .str "", .str "a", .str "lock", .ref q1, .ref q2, .ref q3, .ref q4, .ref q5, .ref q6, .ref q8]) f9)
    have sA := (t1.trans t18).trans (same_new (o := .lst [.non, .bl true, .bl false, .int 0, .int 1, .int (-1), .int (10 ^ (30 : Int).toNat), .str "", .str "a", .str "lock", .ref q1, .ref q2, .ref q3, .ref q4, .ref q5, .ref q6, .ref q8]) f9)
    clear all
    generalize upd G8 l _ = GA at hA da sA
    -- how often
    refine ⟨_, rfl, (by show 5 ≤ sizeLine; decide), fun lB nB => ?_⟩
    refine ⟨upd GA lB _, p, lB, n + 1, _, rfl, SqL.of upd_same, (by simp), (by show 5 ≤ 1000000; decide), (by omega), hA.upd (hA.ne nB), fun HB j hj hB => ?_⟩
    obtain ⟨i, rfl, i0, i1⟩ : ∃ i : Int, j = .int i ∧ 0 ≤ i ∧ i ≤ 27 := by
      simp only [List.mem_cons, List.not_mem_nil, or_false] at hj
      rcases hj with rfl | rfl | rfl | rfl | rfl
      all_goals exact ⟨_, rfl, by decide, by decide⟩
    have sB := sA.trans (same_new (o := .lst [.int 0, .int 0, .int 1, .int 2, .int 27]) (hA.1.free nB))
    have dB := da.mono (same_new (o := .lst [.int 0, .int 0, .int 1, .int 2, .int 27]) (hA.1.free nB))
    refine ⟨i, rfl, (by omega), (by omega), for_range (n := i.toNat) (fun k σ Hc => ∃ (H1 : Hp) (v : V) (d : PyData) (t : Option V), σ = [some (.ref p), some (.ref l), some v, t] ∧ Same H0 H1 ∧ Hand H1 Hc p (n + 2 + k) ∧ Da H1 v d ∧ Shows d (60 + 30 * k) (4 + k))
      ⟨_, v, d, none, rfl, sB, hB, dB, ds⟩ ?_ ?_⟩
    · rintro k σ Hc hk ⟨H1, v, d, t, rfl, s1, hc, dv, sd⟩
      -- (found,), [found], {'a': found}, ('not', found)
      refine ⟨_, rfl, _, rfl, (by show 1 ≤ sizeLine; decide), fun r1 m1 => ?_⟩
      have c1 := hc.upd (o := .tup [v]) (hc.ne m1)
      have e1 : Same H1 (upd H1 r1 (.tup [v])) := same_new (hc.1.free m1)
      have b1 : Da (upd H1 r1 (.tup [v])) (.ref r1) (.tuple [d]) := .tup upd_same (.cons (dv.mono e1) .nil)
      generalize upd H1 r1 (.tup [v]) = K1 at c1 e1 b1
      refine ⟨_, rfl, (by show 1 ≤ sizeLine; decide), fun r2 m2 u2 => ?_⟩
      have c2 := c1.upd (o := .lst [v]) (c1.ne m2)
      have e2 : Same K1 (upd K1 r2 (.lst [v])) := same_new (c1.1.free m2)
      have b2 : Da (upd K1 r2 (.lst [v])) (.ref r2) (.list [d]) := .lst upd_same u2 (.cons (dv.mono (e1.trans e2)) .nil)
      generalize upd K1 r2 (.lst [v]) = K2 at c2 e2 b2
      intro r3 m3
      have c3 := (c2.upd (o := .dK []) (c2.ne m3)).upd (o := .dK (mergeK [] [(.inr "a", v)])) (c2.ne m3)
      have e3 : Same K2 (upd (upd K2 r3 (.dK [])) r3 (.dK (mergeK [] [(.inr "a", v)]))) := same_two (c2.1.free m3)
      have b3 : Da (upd (upd K2 r3 (.dK [])) r3 (.dK (mergeK [] [(.inr "a", v)]))) (.ref r3) (.dict [(.str "a", d)]) :=
        Da.dic (kvs := [(.inr "a", v)]) (ds := [d]) upd_same (.cons (dv.mono (e1.trans (e2.trans e3))) .nil)
      refine ⟨_, rfl, upd_same, [(.inr "a", v)], rfl, (by show 1 ≤ 15; decide), ?_⟩
      generalize upd (upd K2 r3 (.dK [])) r3 (.dK (mergeK [] [(.inr "a", v)])) = K3 at c3 e3 b3
      refine ⟨_, rfl, (by show 2 ≤ sizeLine; decide), fun r4 m4 => ?_⟩
      have c4 := c3.upd (o := .tup [.str "not", v]) (c3.ne m4)
      have e4 : Same K3 (upd K3 r4 (.tup [.str "not", v])) := same_new (c3.1.free m4)
      have b4 : Da (upd K3 r4 (.tup [.str "not", v])) (.ref r4) (.tuple [.str "not", d]) := .tup upd_same (.cons (.str _) (.cons (dv.mono (e1.trans (e2.trans (e3.trans e4)))) .nil))
      generalize upd K3 r4 (.tup [.str "not", v]) = K4 at c4 e4 b4
      refine ⟨(by show 4 ≤ sizeLine; decide), fun l3 m5 => ?_⟩
      refine ⟨upd K4 l3 _, p, l3, n + 2 + k, _, rfl, SqL.of upd_same, (by simp), (by show 4 ≤ 1000000; decide), (by omega), c4.upd (c4.ne m5), fun HC v' hv' hC => ?_⟩
      have e5 : Same K4 (upd K4 l3 (.lst [.ref r1, .ref r2, .ref r3, .ref r4])) := same_new (c4.1.free m5)
      have fin : ∃ d', Da K4 v' d' ∧ Shows d' (60 + 30 * (k + 1)) (4 + (k + 1)) := by
        simp only [List.mem_cons, List.not_mem_nil, or_false] at hv'
        rcases hv' with rfl | rfl | rfl | rfl
        · exact ⟨_, b1.mono (e2.trans (e3.trans e4)), (Shows.tup (.cons sd (.nil _))).more (by omega) (by omega)⟩
        · exact ⟨_, b2.mono (e3.trans e4), (Shows.lst (.cons sd (.nil _))).more (by omega) (by omega)⟩
        · exact ⟨_, b3.mono e4, (Shows.dic1 (by decide +kernel) sd).more (by omega) (by omega)⟩
        · exact ⟨_, b4, (Shows.tup (.cons (shows_str (n := 5) (by decide +kernel)) (.cons sd (.nil _)))).more (by omega) (by omega)⟩
      obtain ⟨d', x1, x2⟩ := fin
      exact ⟨_, v', d', _, rfl, s1.trans (e1.trans (e2.trans (e3.trans (e4.trans e5)))), hC, x1.mono e5, x2⟩
    · rintro σ Hc ⟨H1, v, d, t, rfl, s1, hc, dv, sd⟩
      exact ⟨_, rfl, q H1 Hc v d s1 (hc.mono (by omega)) dv (sd.more (by omega) (by omega))⟩
end
end L2.Fu
/-! ## The classes -/
namespace L2.Fu
open PySem PySem.Spec PyProof.Rows
open PySem.W (Frag findIn subIn typeIn keepIn hasDictIn specialIn takesIn mroIn kitOne excIn)
def veB : List Value := [.type "ValueError", .type "Exception", .type "BaseException", .type "object"]
/-- what both kinds of classes have -/
def anyB (K : Frag) (C : Addr) : Bool := (findIn K (.ref C) "__getattribute__" == some (some (.builtin "BaseException.__getattribute__"))) && ((findIn K (.ref C) "__getattr__" == some none) && ((subIn K (.ref C) (.type "BaseException") == some true) &&
  (hasDictIn K C && ((findIn K (.ref C) "__class__" == some (some (.builtin "object.__class__"))) && ((specialIn K (.builtin "object.__class__") "__get__" == some (some (.builtin "getset_descriptor.__get__"))) && ((takesIn K (.builtin "object.__class__") == some true) &&
  ((mroIn K C (.type "object") == some true) && keepIn K (.ref C))))))))
theorem anyB_ok {K : Frag} {C : Addr} (h : anyB K C = true) : ExcC K C ∧ XfC K C ∧ keepIn K (.ref C) = true := by
  unfold anyB at h
  simp only [Bool.and_eq_true, beq_iff_eq] at h
  obtain ⟨h1, h2, h3, h4, h5, h6, h7, h8, h9⟩ := h
  exact ⟨⟨h1, h2, h3, h4, h5, h6, h7, h8⟩, ⟨h1, h2, h3, h4⟩, h9⟩
def oneB (K : Frag) (C : Addr) : Bool := match K.lookup C with
  | some ⟨.type "type", _, .cls cd, sl⟩ => (match cd.mro, sl.toList with
    | .ref C' :: bm, [_, _, _, _, some (.builtin n), _] => C' == C && (n == "ValueError.__new__" && (!cd.hasDel && (cd.hasDict && PySem.HandSPX.refsVE bm)))
    | _, _ => false)
  | _ => false
theorem oneB_ok {K : Frag} {C : Addr} (h : oneB K C = true) : ∃ nm q N bs bm sn sub ab col dd k0 k1 k2 k3 k5, K.lookup C = some (excClassObj nm q C N bs bm true sn sub ab col dd k0 k1 k2 k3 k5 "ValueError.__new__") ∧ PySem.HandSPX.refsVE bm = true := by
  unfold oneB at h
  split at h
  · rename_i dd cd sl ho
    split at h
    · rename_i C' bm k0 k1 k2 k3 n k5 hm hs
      simp only [Bool.and_eq_true, beq_iff_eq, Bool.not_eq_true'] at h
      obtain ⟨rfl, rfl, hdel, hdc, hv⟩ := h
      obtain ⟨nm, bs, mro, ns, qn, hd, sn, sub, ab, col, del⟩ := cd
      dsimp only at hm hdel hdc
      subst hm hdel hdc
      obtain ⟨l⟩ := sl
      dsimp only at hs
      subst hs
      exact ⟨nm, qn, ns, bs, bm, sn, sub, ab, col, dd, k0, k1, k2, k3, k5, ho, hv⟩
    · cases h
  · cases h
/-- a class with a field -/
def fieldB (K : Frag) (C : Addr) : Bool := anyB K C && (oneB K C && ((findIn K (.ref C) "__setattr__" == some (some (.builtin "object.__setattr__"))) && ((typeIn K (.ref C) == some (.type "type")) && (findIn K (.ref C) "value" == some none))))
theorem fieldB_ok {K : Frag} {C : Addr} (h : fieldB K C = true) : OexC K C ∧ findIn K (.ref C) "value" = some none := by
  unfold fieldB at h
  simp only [Bool.and_eq_true, beq_iff_eq] at h
  obtain ⟨h1, h2, h3, h4, h5⟩ := h
  obtain ⟨a, b, c⟩ := anyB_ok h1
  exact ⟨⟨oneB_ok h2, h3, a.hs, h4, c⟩, h5⟩
def mixB (K : Frag) (CF : Addr) (Cs : List Addr) : Bool := (List.range 15).all fun j => (List.range 15).all (fun i => kitOne K (.ref (Cs.getD j 0)) (.ref (Cs.getD i 0)) == some (i == j)) &&
  ((kitOne K (.ref (Cs.getD j 0)) (.ref CF) == some true) && (kitOne K (.ref (Cs.getD j 0)) (.type "ValueError") == some true))
def xNames : List Str := ["BadRequest", "BadUsers", "UnknownUser", "NoHull", "NotAdditive", "BadLibrary", "BadName", "TakenName", "BadItems", "BadNumber", "BadText", "BadLine", "OtherManifest", "FullBuild", "NothingToUndo"]
structure Txt (K : Frag) (mg : Str → Option Value) (CF : Addr) (Cs : List Addr) : Prop where
  gF : mg "FeatureError" = some (.ref CF)
  g : ∀ j, j < 15 → mg (xNames.getD j "") = some (.ref (Cs.getD j 0))
  any : ((List.range 15).all fun j => anyB K (Cs.getD j 0)) = true
  field : ((List.range 12).all fun j => fieldB K (Cs.getD j 0)) = true
  bare : ((List.range 3).all fun j => excIn K (Cs.getD (12 + j) 0) veB "ValueError.__new__") = true
  mix : mixB K CF Cs = true
section
variable {K : Frag} {mg : Str → Option Value} {CF : Addr} {Cs : List Addr}
theorem Txt.exc (T : Txt K mg CF Cs) {j : Nat} (h : j < 15) : ExcC K (Cs.getD j 0) := (anyB_ok (List.all_eq_true.mp T.any j (List.mem_range.mpr h))).1
theorem Txt.xf (T : Txt K mg CF Cs) {j : Nat} (h : j < 15) : XfC K (Cs.getD j 0) := (anyB_ok (List.all_eq_true.mp T.any j (List.mem_range.mpr h))).2.1
theorem Txt.kp (T : Txt K mg CF Cs) {j : Nat} (h : j < 15) : keepIn K (.ref (Cs.getD j 0)) = true := (anyB_ok (List.all_eq_true.mp T.any j (List.mem_range.mpr h))).2.2
theorem Txt.oex (T : Txt K mg CF Cs) {j : Nat} (h : j < 12) : OexC K (Cs.getD j 0) := (fieldB_ok (List.all_eq_true.mp T.field j (List.mem_range.mpr h))).1
theorem Txt.val (T : Txt K mg CF Cs) {j : Nat} (h : j < 12) : findIn K (.ref (Cs.getD j 0)) "value" = some none := (fieldB_ok (List.all_eq_true.mp T.field j (List.mem_range.mpr h))).2
theorem Txt.kit (T : Txt K mg CF Cs) {i j : Nat} (hi : i < 15) (hj : j < 15) : kitOne K (.ref (Cs.getD j 0)) (.ref (Cs.getD i 0)) = some (i == j) := by
  have h := List.all_eq_true.mp T.mix j (List.mem_range.mpr hj)
  exact beq_iff_eq.mp (List.all_eq_true.mp (Bool.and_eq_true_iff.mp h).1 i (List.mem_range.mpr hi))
theorem Txt.kitF (T : Txt K mg CF Cs) {j : Nat} (hj : j < 15) : kitOne K (.ref (Cs.getD j 0)) (.ref CF) = some true := by
  have h := List.all_eq_true.mp T.mix j (List.mem_range.mpr hj)
  exact beq_iff_eq.mp (Bool.and_eq_true_iff.mp (Bool.and_eq_true_iff.mp h).2).1
theorem Txt.kitV (T : Txt K mg CF Cs) {j : Nat} (hj : j < 15) : kitOne K (.ref (Cs.getD j 0)) (.type "ValueError") = some true := by
  have h := List.all_eq_true.mp T.mix j (List.mem_range.mpr hj)
  exact beq_iff_eq.mp (Bool.and_eq_true_iff.mp (Bool.and_eq_true_iff.mp h).2).2
end

/-! ## __init__ -/
def spI (C : Addr) : Sp := fun vs H Q _ => ∃ (a : Addr) (v : V), vs = [.ref a, v] ∧ H a = some (exo a C none) ∧ ∀ dx, H dx = none → dx ≠ a → Q .non (upd (upd H dx (exd dx [("value", v)])) a (exo a C (some dx)))
theorem ok_init {P : Program} {w : World} {K : Frag} {mg : Str → Option Value} {base : Heap} {q : Str} {st : Stmt} {f C : Addr} {fd : FuncData} (F : Fun K "__init__" q st f fd) (S : FnScope ["self", "value"] ["self", "value"] (defScope st)) (T : OexC K C) (no : findIn K (.ref C) "value" = some none)
    {p1 p2 p3 p4 : Pos} (hb : defBody st = [.Assign [.Attribute (.Name "self" p1) "value" p2] (.Name "value" p3) p4]) (sc : defScope st = { kind := .function, names := [("self", .local), ("value", .local)], isGenerator := false, isCoroutine := false, more := [] }) :
    FnOk P w K mg base CX0 1 f fd ["self", "value"] (spI C) := by
  refine F.ok S (fun vs H Q E h => ?_) (fun cdv A outer s H vs Q E hr h => ?_)
  · obtain ⟨a, v, rfl, _⟩ := h
    rfl
  · obtain ⟨a, v, rfl, ea, k⟩ := h
    rw [hb, sc]
    refine ⟨_, pss_one (ps_ost (pv 0) (pv 1)), ?_⟩
    exact ⟨_, rfl, _, rfl, a, C, rfl, T, no, .inl ⟨ea, fun dx n ne => k dx n ne⟩⟩
/-- an exception of the class at C that keeps v -/
def XV (H : Hp) (e C : Addr) (v : V) : Prop := ∃ d : Addr, H e = some (exo e C (some d)) ∧ H d = some (exd d [("value", v)])
theorem XV.mono {H H' : Hp} {e C : Addr} {v : V} (s : Same H H') (h : XV H e C v) : XV H' e C v := by
  obtain ⟨d, a, b⟩ := h
  exact ⟨d, s _ _ a, s _ _ b⟩
theorem XV.is {H : Hp} {e C : Addr} {v : V} (h : XV H e C v) : IsX H e C := by
  obtain ⟨d, a, b⟩ := h
  exact .inl ⟨d, _, a, b⟩
theorem IsX.mono {H H' : Hp} {e C : Addr} (s : Same H H') (h : IsX H e C) : IsX H' e C := by
  rcases h with ⟨d, fs, a, b⟩ | a
  · exact .inl ⟨d, fs, s _ _ a, s _ _ b⟩
  · exact .inr (s _ _ a)
theorem made_one {H : Hp} {a d C : Addr} {v : V} (na : H a = none) (nd : upd H a (exo a C none) d = none) (ne : d ≠ a) :
    Same H (upd (upd (upd H a (exo a C none)) d (exd d [("value", v)])) a (exo a C (some d))) ∧ XV (upd (upd (upd H a (exo a C none)) d (exd d [("value", v)])) a (exo a C (some d))) a C v := by
  have nd' : H d = none := by rw [upd_ne ne] at nd; exact nd
  refine ⟨fun b o k => ?_, d, upd_same, by rw [upd_ne ne, upd_same]⟩
  rw [upd_ne (ne_of_none k na), upd_ne (ne_of_none k nd'), upd_ne (ne_of_none k na)]
  exact k
structure Rdy (P : Program) (w : World) (K : Frag) (mg : Str → Option Value) (base : Heap) (C f : Addr) (fd : FuncData) : Prop where
  iC : findIn K (.ref C) "__init__" = some (some (.ref f))
  tI : typeIn K (.ref f) = some (.type "function")
  G : FnOk P w K mg base CX0 1 f fd ["self", "value"] (spI C)
  b : Binds K fd ["self", "value"] []

/-! ## isinstance against all classes -/
def flagsOf (j : Nat) : List V := [.bl (0 == j), .bl (1 == j), .bl (2 == j), .bl (3 == j), .bl (4 == j), .bl (5 == j), .bl (6 == j), .bl (7 == j), .bl (8 == j), .bl (9 == j), .bl (10 == j), .bl (11 == j), .bl (12 == j), .bl (13 == j), .bl (14 == j)]
def spFlags (Cs : List Addr) : Sp := fun vs H Q _ => ∃ (a : Addr) (j : Nat), vs = [.ref a] ∧ j < 15 ∧ IsX H a (Cs.getD j 0) ∧ ∀ (H' : Hp) (l : Addr), Same H H' → H' l = some (.lst (flagsOf j)) → Q (.ref l) H'
section
variable {P : Program} {w : World} {K : Frag} {mg : Str → Option Value} {base : Heap} {CF : Addr} {Cs : List Addr}
theorem scFlags : FnScope ["_law_error", "_law_found"] ["_law_error"] (defScope sFlags) := ⟨rfl, rfl, rfl, by decide +kernel, rfl, by decide +kernel, by decide +kernel⟩
theorem ok_flags {f : Addr} {fd : FuncData} (F : Fun K "_law_flags" "_law_flags" sFlags f fd) (T : Txt K mg CF Cs) (zIs : mg "isinstance" = none) : FnOk P w K mg base CX0 1 f fd ["_law_error"] (spFlags Cs) := by
  refine F.ok scFlags (fun vs H Q E h => ?_) (fun cdv A outer s H vs Q E hr h => ?_)
  · obtain ⟨a, j, rfl, _⟩ := h
    rfl
  · obtain ⟨a, j, rfl, hj, hx, q⟩ := h
    have C := T.exc hj
    refine ⟨_, pss_cons (ps_set (i := 1) scFlags.nd rfl (.inl rfl) (pe_lst (pa_cons (pe_callB call_isX (by rfl) zIs boot_isinstance (pa_cons (pv 0) (pa_cons (pe_glob (v := .ref (Cs.getD 0 0)) rfl (T.g 0 (by decide)) rfl) pa_nil))) (pa_cons (pe_callB call_isX (by rfl) zIs boot_isinstance (pa_cons (pv 0) (pa_cons (pe_glob (v := .ref (Cs.getD 1 0)) rfl (T.g 1 (by decide)) rfl) pa_nil))) (pa_cons (pe_callB call_isX (by rfl) zIs boot_isinstance (pa_cons (pv 0) (pa_cons (pe_glob (v := .ref (Cs.getD 2 0)) rfl (T.g 2 (by decide)) rfl) pa_nil))) pa_nil)))))
      (pss_cons (ps_set (i := 1) scFlags.nd rfl (.inl rfl) (pe_op op_cat (pv 1) (pe_lst (pa_cons (pe_callB call_isX (by rfl) zIs boot_isinstance (pa_cons (pv 0) (pa_cons (pe_glob (v := .ref (Cs.getD 3 0)) rfl (T.g 3 (by decide)) rfl) pa_nil))) (pa_cons (pe_callB call_isX (by rfl) zIs boot_isinstance (pa_cons (pv 0) (pa_cons (pe_glob (v := .ref (Cs.getD 4 0)) rfl (T.g 4 (by decide)) rfl) pa_nil))) (pa_cons (pe_callB call_isX (by rfl) zIs boot_isinstance (pa_cons (pv 0) (pa_cons (pe_glob (v := .ref (Cs.getD 5 0)) rfl (T.g 5 (by decide)) rfl) pa_nil))) pa_nil))))))
      (pss_cons (ps_set (i := 1) scFlags.nd rfl (.inl rfl) (pe_op op_cat (pv 1) (pe_lst (pa_cons (pe_callB call_isX (by rfl) zIs boot_isinstance (pa_cons (pv 0) (pa_cons (pe_glob (v := .ref (Cs.getD 6 0)) rfl (T.g 6 (by decide)) rfl) pa_nil))) (pa_cons (pe_callB call_isX (by rfl) zIs boot_isinstance (pa_cons (pv 0) (pa_cons (pe_glob (v := .ref (Cs.getD 7 0)) rfl (T.g 7 (by decide)) rfl) pa_nil))) (pa_cons (pe_callB call_isX (by rfl) zIs boot_isinstance (pa_cons (pv 0) (pa_cons (pe_glob (v := .ref (Cs.getD 8 0)) rfl (T.g 8 (by decide)) rfl) pa_nil))) pa_nil))))))
      (pss_cons (ps_set (i := 1) scFlags.nd rfl (.inl rfl) (pe_op op_cat (pv 1) (pe_lst (pa_cons (pe_callB call_isX (by rfl) zIs boot_isinstance (pa_cons (pv 0) (pa_cons (pe_glob (v := .ref (Cs.getD 9 0)) rfl (T.g 9 (by decide)) rfl) pa_nil))) (pa_cons (pe_callB call_isX (by rfl) zIs boot_isinstance (pa_cons (pv 0) (pa_cons (pe_glob (v := .ref (Cs.getD 10 0)) rfl (T.g 10 (by decide)) rfl) pa_nil))) (pa_cons (pe_callB call_isX (by rfl) zIs boot_isinstance (pa_cons (pv 0) (pa_cons (pe_glob (v := .ref (Cs.getD 11 0)) rfl (T.g 11 (by decide)) rfl) pa_nil))) pa_nil))))))
      (pss_one (ps_ret (pe_op op_cat (pv 1) (pe_lst (pa_cons (pe_callB call_isX (by rfl) zIs boot_isinstance (pa_cons (pv 0) (pa_cons (pe_glob (v := .ref (Cs.getD 12 0)) rfl (T.g 12 (by decide)) rfl) pa_nil))) (pa_cons (pe_callB call_isX (by rfl) zIs boot_isinstance (pa_cons (pv 0) (pa_cons (pe_glob (v := .ref (Cs.getD 13 0)) rfl (T.g 13 (by decide)) rfl) pa_nil))) (pa_cons (pe_callB call_isX (by rfl) zIs boot_isinstance (pa_cons (pv 0) (pa_cons (pe_glob (v := .ref (Cs.getD 14 0)) rfl (T.g 14 (by decide)) rfl) pa_nil))) pa_nil)))))))))), ?_⟩
    refine ⟨_, rfl, a, _, _, _, _, rfl, hx, C, .own _, T.kit (by decide) hj, _, rfl, a, _, _, _, _, rfl, hx, C, .own _, T.kit (by decide) hj, _, rfl, a, _, _, _, _, rfl, hx, C, .own _, T.kit (by decide) hj, (by show 3 ≤ sizeLine; decide), fun l1 n1 => ?_⟩
    have s1 := same_new (o := .lst [.bl (0 == j), .bl (1 == j), .bl (2 == j)]) n1
    have e1 : upd H l1 (.lst [.bl (0 == j), .bl (1 == j), .bl (2 == j)]) l1 = _ := upd_same
    have x1 := hx.mono s1
    generalize upd H l1 (.lst [.bl (0 == j), .bl (1 == j), .bl (2 == j)]) = H1 at s1 e1 x1
    refine ⟨_, rfl, _, rfl, a, _, _, _, _, rfl, x1, C, .own _, T.kit (by decide) hj, _, rfl, a, _, _, _, _, rfl, x1, C, .own _, T.kit (by decide) hj, _, rfl, a, _, _, _, _, rfl, x1, C, .own _, T.kit (by decide) hj, (by show 3 ≤ sizeLine; decide), fun m1 k1 => ?_⟩
    refine ⟨l1, m1, _, _, rfl, rfl, same_new k1 _ _ e1, upd_same, (by show 3 + 3 ≤ sizeLine; decide), fun l2 n2 => ?_⟩
    have s2 := (s1.trans (same_new k1)).trans (same_new (o := .lst ([.bl (0 == j), .bl (1 == j), .bl (2 == j)] ++ [.bl (3 == j), .bl (4 == j), .bl (5 == j)])) n2)
    have e2 := upd_same (H := upd H1 m1 (.lst [.bl (3 == j), .bl (4 == j), .bl (5 == j)])) (a := l2) (o := .lst ([.bl (0 == j), .bl (1 == j), .bl (2 == j)] ++ [.bl (3 == j), .bl (4 == j), .bl (5 == j)]))
    have x2 := hx.mono s2
    generalize upd (upd H1 m1 (.lst [.bl (3 == j), .bl (4 == j), .bl (5 == j)])) l2 (.lst ([.bl (0 == j), .bl (1 == j), .bl (2 == j)] ++ [.bl (3 == j), .bl (4 == j), .bl (5 == j)])) = H2 at s2 e2 x2
    refine ⟨_, rfl, _, rfl, a, _, _, _, _, rfl, x2, C, .own _, T.kit (by decide) hj, _, rfl, a, _, _, _, _, rfl, x2, C, .own _, T.kit (by decide) hj, _, rfl, a, _, _, _, _, rfl, x2, C, .own _, T.kit (by decide) hj, (by show 3 ≤ sizeLine; decide), fun m2 k2 => ?_⟩
    refine ⟨l2, m2, _, _, rfl, rfl, same_new k2 _ _ e2, upd_same, (by show 6 + 3 ≤ sizeLine; decide), fun l3 n3 => ?_⟩
    have s3 := (s2.trans (same_new k2)).trans (same_new (o := .lst (([.bl (0 == j), .bl (1 == j), .bl (2 == j)] ++ [.bl (3 == j), .bl (4 == j), .bl (5 == j)]) ++ [.bl (6 == j), .bl (7 == j), .bl (8 == j)])) n3)
    have e3 := upd_same (H := upd H2 m2 (.lst [.bl (6 == j), .bl (7 == j), .bl (8 == j)])) (a := l3) (o := .lst (([.bl (0 == j), .bl (1 == j), .bl (2 == j)] ++ [.bl (3 == j), .bl (4 == j), .bl (5 == j)]) ++ [.bl (6 == j), .bl (7 == j), .bl (8 == j)]))
    have x3 := hx.mono s3
    generalize upd (upd H2 m2 (.lst [.bl (6 == j), .bl (7 == j), .bl (8 == j)])) l3 (.lst (([.bl (0 == j), .bl (1 == j), .bl (2 == j)] ++ [.bl (3 == j), .bl (4 == j), .bl (5 == j)]) ++ [.bl (6 == j), .bl (7 == j), .bl (8 == j)])) = H3 at s3 e3 x3
    refine ⟨_, rfl, _, rfl, a, _, _, _, _, rfl, x3, C, .own _, T.kit (by decide) hj, _, rfl, a, _, _, _, _, rfl, x3, C, .own _, T.kit (by decide) hj, _, rfl, a, _, _, _, _, rfl, x3, C, .own _, T.kit (by decide) hj, (by show 3 ≤ sizeLine; decide), fun m3 k3 => ?_⟩
    refine ⟨l3, m3, _, _, rfl, rfl, same_new k3 _ _ e3, upd_same, (by show 9 + 3 ≤ sizeLine; decide), fun l4 n4 => ?_⟩
    have s4 := (s3.trans (same_new k3)).trans (same_new (o := .lst ((([.bl (0 == j), .bl (1 == j), .bl (2 == j)] ++ [.bl (3 == j), .bl (4 == j), .bl (5 == j)]) ++ [.bl (6 == j), .bl (7 == j), .bl (8 == j)]) ++ [.bl (9 == j), .bl (10 == j), .bl (11 == j)])) n4)
    have e4 := upd_same (H := upd H3 m3 (.lst [.bl (9 == j), .bl (10 == j), .bl (11 == j)])) (a := l4) (o := .lst ((([.bl (0 == j), .bl (1 == j), .bl (2 == j)] ++ [.bl (3 == j), .bl (4 == j), .bl (5 == j)]) ++ [.bl (6 == j), .bl (7 == j), .bl (8 == j)]) ++ [.bl (9 == j), .bl (10 == j), .bl (11 == j)]))
    have x4 := hx.mono s4
    generalize upd (upd H3 m3 (.lst [.bl (9 == j), .bl (10 == j), .bl (11 == j)])) l4 (.lst ((([.bl (0 == j), .bl (1 == j), .bl (2 == j)] ++ [.bl (3 == j), .bl (4 == j), .bl (5 == j)]) ++ [.bl (6 == j), .bl (7 == j), .bl (8 == j)]) ++ [.bl (9 == j), .bl (10 == j), .bl (11 == j)])) = H4 at s4 e4 x4
    refine ⟨_, rfl, _, rfl, a, _, _, _, _, rfl, x4, C, .own _, T.kit (by decide) hj, _, rfl, a, _, _, _, _, rfl, x4, C, .own _, T.kit (by decide) hj, _, rfl, a, _, _, _, _, rfl, x4, C, .own _, T.kit (by decide) hj, (by show 3 ≤ sizeLine; decide), fun m4 k4 => ?_⟩
    refine ⟨l4, m4, _, _, rfl, rfl, same_new k4 _ _ e4, upd_same, (by show 12 + 3 ≤ sizeLine; decide), fun l5 n5 => ?_⟩
    exact q _ l5 ((s4.trans (same_new k4)).trans (same_new n5)) upd_same
end
end L2.Fu
/-! ## The exceptions are made -/
namespace L2.Fu
open PySem PySem.Spec PyProof.Rows
open PySem.W (Frag findIn subIn typeIn keepIn hasDictIn specialIn takesIn mroIn kitOne excIn)
def spMade (Cs : List Addr) : Sp := fun vs H Q _ => ∃ v : V, vs = [v] ∧ ∀ (H' : Hp) (l : Addr) (es : List Addr), Same H H' → H' l = some (.lst (es.map V.ref)) → es.length = 12 → (∀ j e, es[j]? = some e → XV H' e (Cs.getD j 0) v) → Q (.ref l) H'
section
variable {P : Program} {w : World} {K : Frag} {mg : Str → Option Value} {base : Heap} {CF : Addr} {Cs : List Addr}
theorem scMade : FnScope ["_law_thing", "_law_found"] ["_law_thing"] (defScope sMade) := ⟨rfl, rfl, rfl, by decide +kernel, rfl, by decide +kernel, by decide +kernel⟩
theorem ok_made {f : Addr} {fd : FuncData} (F : Fun K "_law_made" "_law_made" sMade f fd) (T : Txt K mg CF Cs) (R : ∀ j, j < 12 → ∃ (g : Addr) (gd : FuncData), Rdy P w K mg base (Cs.getD j 0) g gd) : FnOk P w K mg base CX0 3 f fd ["_law_thing"] (spMade Cs) := by
  obtain ⟨g0, gd0, R0⟩ := R 0 (by decide)
  obtain ⟨g1, gd1, R1⟩ := R 1 (by decide)
  obtain ⟨g2, gd2, R2⟩ := R 2 (by decide)
  obtain ⟨g3, gd3, R3⟩ := R 3 (by decide)
  obtain ⟨g4, gd4, R4⟩ := R 4 (by decide)
  obtain ⟨g5, gd5, R5⟩ := R 5 (by decide)
  obtain ⟨g6, gd6, R6⟩ := R 6 (by decide)
  obtain ⟨g7, gd7, R7⟩ := R 7 (by decide)
  obtain ⟨g8, gd8, R8⟩ := R 8 (by decide)
  obtain ⟨g9, gd9, R9⟩ := R 9 (by decide)
  obtain ⟨g10, gd10, R10⟩ := R 10 (by decide)
  obtain ⟨g11, gd11, R11⟩ := R 11 (by decide)
  refine F.ok scMade (fun vs H Q E h => ?_) (fun cdv A outer s H vs Q E hr h => ?_)
  · obtain ⟨v, rfl, _⟩ := h
    rfl
  · obtain ⟨v, rfl, q⟩ := h
    refine ⟨_, pss_cons (ps_set (i := 1) scMade.nd rfl (.inl rfl) (pe_lst (pa_cons (pe_excI (T.oex (j := 0) (by decide)) R0.iC R0.tI R0.G hr R0.b rfl (T.g 0 (by decide)) (pa_cons (pv 0) pa_nil)) (pa_cons (pe_excI (T.oex (j := 1) (by decide)) R1.iC R1.tI R1.G hr R1.b rfl (T.g 1 (by decide)) (pa_cons (pv 0) pa_nil)) (pa_cons (pe_excI (T.oex (j := 2) (by decide)) R2.iC R2.tI R2.G hr R2.b rfl (T.g 2 (by decide)) (pa_cons (pv 0) pa_nil)) (pa_cons (pe_excI (T.oex (j := 3) (by decide)) R3.iC R3.tI R3.G hr R3.b rfl (T.g 3 (by decide)) (pa_cons (pv 0) pa_nil)) (pa_cons (pe_excI (T.oex (j := 4) (by decide)) R4.iC R4.tI R4.G hr R4.b rfl (T.g 4 (by decide)) (pa_cons (pv 0) pa_nil)) pa_nil)))))))
      (pss_cons (ps_set (i := 1) scMade.nd rfl (.inl rfl) (pe_op op_cat (pv 1) (pe_lst (pa_cons (pe_excI (T.oex (j := 5) (by decide)) R5.iC R5.tI R5.G hr R5.b rfl (T.g 5 (by decide)) (pa_cons (pv 0) pa_nil)) (pa_cons (pe_excI (T.oex (j := 6) (by decide)) R6.iC R6.tI R6.G hr R6.b rfl (T.g 6 (by decide)) (pa_cons (pv 0) pa_nil)) (pa_cons (pe_excI (T.oex (j := 7) (by decide)) R7.iC R7.tI R7.G hr R7.b rfl (T.g 7 (by decide)) (pa_cons (pv 0) pa_nil)) (pa_cons (pe_excI (T.oex (j := 8) (by decide)) R8.iC R8.tI R8.G hr R8.b rfl (T.g 8 (by decide)) (pa_cons (pv 0) pa_nil)) (pa_cons (pe_excI (T.oex (j := 9) (by decide)) R9.iC R9.tI R9.G hr R9.b rfl (T.g 9 (by decide)) (pa_cons (pv 0) pa_nil)) pa_nil))))))))
      (pss_one (ps_ret (pe_op op_cat (pv 1) (pe_lst (pa_cons (pe_excI (T.oex (j := 10) (by decide)) R10.iC R10.tI R10.G hr R10.b rfl (T.g 10 (by decide)) (pa_cons (pv 0) pa_nil)) (pa_cons (pe_excI (T.oex (j := 11) (by decide)) R11.iC R11.tI R11.G hr R11.b rfl (T.g 11 (by decide)) (pa_cons (pv 0) pa_nil)) pa_nil))))))), ?_⟩
    refine ⟨_, rfl, (by show 1 ≤ 1000; decide), fun a0 na0 => ⟨a0, v, rfl, upd_same, fun d0 nd0 ne0 => ⟨rfl, ?_⟩⟩⟩
    obtain ⟨s0, x0⟩ := made_one (v := v) na0 nd0 ne0
    generalize upd (upd (upd H a0 (exo a0 (Cs.getD 0 0) none)) d0 (exd d0 [("value", v)])) a0 (exo a0 (Cs.getD 0 0) (some d0)) = H0 at s0 x0
    refine ⟨_, rfl, (by show 1 ≤ 1000; decide), fun a1 na1 => ⟨a1, v, rfl, upd_same, fun d1 nd1 ne1 => ⟨rfl, ?_⟩⟩⟩
    obtain ⟨s1, x1⟩ := made_one (v := v) na1 nd1 ne1
    generalize upd (upd (upd H0 a1 (exo a1 (Cs.getD 1 0) none)) d1 (exd d1 [("value", v)])) a1 (exo a1 (Cs.getD 1 0) (some d1)) = H1 at s1 x1
    refine ⟨_, rfl, (by show 1 ≤ 1000; decide), fun a2 na2 => ⟨a2, v, rfl, upd_same, fun d2 nd2 ne2 => ⟨rfl, ?_⟩⟩⟩
    obtain ⟨s2, x2⟩ := made_one (v := v) na2 nd2 ne2
    generalize upd (upd (upd H1 a2 (exo a2 (Cs.getD 2 0) none)) d2 (exd d2 [("value", v)])) a2 (exo a2 (Cs.getD 2 0) (some d2)) = H2 at s2 x2
    refine ⟨_, rfl, (by show 1 ≤ 1000; decide), fun a3 na3 => ⟨a3, v, rfl, upd_same, fun d3 nd3 ne3 => ⟨rfl, ?_⟩⟩⟩
    obtain ⟨s3, x3⟩ := made_one (v := v) na3 nd3 ne3
    generalize upd (upd (upd H2 a3 (exo a3 (Cs.getD 3 0) none)) d3 (exd d3 [("value", v)])) a3 (exo a3 (Cs.getD 3 0) (some d3)) = H3 at s3 x3
    refine ⟨_, rfl, (by show 1 ≤ 1000; decide), fun a4 na4 => ⟨a4, v, rfl, upd_same, fun d4 nd4 ne4 => ⟨rfl, ?_⟩⟩⟩
    obtain ⟨s4, x4⟩ := made_one (v := v) na4 nd4 ne4
    generalize upd (upd (upd H3 a4 (exo a4 (Cs.getD 4 0) none)) d4 (exd d4 [("value", v)])) a4 (exo a4 (Cs.getD 4 0) (some d4)) = H4 at s4 x4
    refine ⟨(by show 5 ≤ sizeLine; decide), fun l1 n1 => ?_⟩
    have t1 := same_new (o := .lst [.ref a0, .ref a1, .ref a2, .ref a3, .ref a4]) n1
    have e1 : upd H4 l1 (.lst [.ref a0, .ref a1, .ref a2, .ref a3, .ref a4]) l1 = _ := upd_same
    generalize upd H4 l1 (.lst [.ref a0, .ref a1, .ref a2, .ref a3, .ref a4]) = G1 at t1 e1
    refine ⟨_, rfl, _, rfl, (by show 1 ≤ 1000; decide), fun a5 na5 => ⟨a5, v, rfl, upd_same, fun d5 nd5 ne5 => ⟨rfl, ?_⟩⟩⟩
    obtain ⟨s5, x5⟩ := made_one (v := v) na5 nd5 ne5
    generalize upd (upd (upd G1 a5 (exo a5 (Cs.getD 5 0) none)) d5 (exd d5 [("value", v)])) a5 (exo a5 (Cs.getD 5 0) (some d5)) = H5 at s5 x5
    refine ⟨_, rfl, (by show 1 ≤ 1000; decide), fun a6 na6 => ⟨a6, v, rfl, upd_same, fun d6 nd6 ne6 => ⟨rfl, ?_⟩⟩⟩
    obtain ⟨s6, x6⟩ := made_one (v := v) na6 nd6 ne6
    generalize upd (upd (upd H5 a6 (exo a6 (Cs.getD 6 0) none)) d6 (exd d6 [("value", v)])) a6 (exo a6 (Cs.getD 6 0) (some d6)) = H6 at s6 x6
    refine ⟨_, rfl, (by show 1 ≤ 1000; decide), fun a7 na7 => ⟨a7, v, rfl, upd_same, fun d7 nd7 ne7 => ⟨rfl, ?_⟩⟩⟩
    obtain ⟨s7, x7⟩ := made_one (v := v) na7 nd7 ne7
    generalize upd (upd (upd H6 a7 (exo a7 (Cs.getD 7 0) none)) d7 (exd d7 [("value", v)])) a7 (exo a7 (Cs.getD 7 0) (some d7)) = H7 at s7 x7
    refine ⟨_, rfl, (by show 1 ≤ 1000; decide), fun a8 na8 => ⟨a8, v, rfl, upd_same, fun d8 nd8 ne8 => ⟨rfl, ?_⟩⟩⟩
    obtain ⟨s8, x8⟩ := made_one (v := v) na8 nd8 ne8
    generalize upd (upd (upd H7 a8 (exo a8 (Cs.getD 8 0) none)) d8 (exd d8 [("value", v)])) a8 (exo a8 (Cs.getD 8 0) (some d8)) = H8 at s8 x8
    refine ⟨_, rfl, (by show 1 ≤ 1000; decide), fun a9 na9 => ⟨a9, v, rfl, upd_same, fun d9 nd9 ne9 => ⟨rfl, ?_⟩⟩⟩
    obtain ⟨s9, x9⟩ := made_one (v := v) na9 nd9 ne9
    generalize upd (upd (upd H8 a9 (exo a9 (Cs.getD 9 0) none)) d9 (exd d9 [("value", v)])) a9 (exo a9 (Cs.getD 9 0) (some d9)) = H9 at s9 x9
    refine ⟨(by show 5 ≤ sizeLine; decide), fun m1 k1 => ?_⟩
    have u1 : Same G1 H9 := s5.trans (s6.trans (s7.trans (s8.trans s9)))
    refine ⟨l1, m1, _, _, rfl, rfl, same_new k1 _ _ (u1 _ _ e1), upd_same, (by show 5 + 5 ≤ sizeLine; decide), fun l2 n2 => ?_⟩
    have t2 := (same_new k1).trans (same_new (o := .lst ([.ref a0, .ref a1, .ref a2, .ref a3, .ref a4] ++ [.ref a5, .ref a6, .ref a7, .ref a8, .ref a9])) n2)
    have e2 := upd_same (H := upd H9 m1 (.lst [.ref a5, .ref a6, .ref a7, .ref a8, .ref a9])) (a := l2) (o := .lst ([.ref a0, .ref a1, .ref a2, .ref a3, .ref a4] ++ [.ref a5, .ref a6, .ref a7, .ref a8, .ref a9]))
    generalize upd (upd H9 m1 (.lst [.ref a5, .ref a6, .ref a7, .ref a8, .ref a9])) l2 (.lst ([.ref a0, .ref a1, .ref a2, .ref a3, .ref a4] ++ [.ref a5, .ref a6, .ref a7, .ref a8, .ref a9])) = G2 at t2 e2
    refine ⟨_, rfl, _, rfl, (by show 1 ≤ 1000; decide), fun a10 na10 => ⟨a10, v, rfl, upd_same, fun d10 nd10 ne10 => ⟨rfl, ?_⟩⟩⟩
    obtain ⟨s10, x10⟩ := made_one (v := v) na10 nd10 ne10
    generalize upd (upd (upd G2 a10 (exo a10 (Cs.getD 10 0) none)) d10 (exd d10 [("value", v)])) a10 (exo a10 (Cs.getD 10 0) (some d10)) = H10 at s10 x10
    refine ⟨_, rfl, (by show 1 ≤ 1000; decide), fun a11 na11 => ⟨a11, v, rfl, upd_same, fun d11 nd11 ne11 => ⟨rfl, ?_⟩⟩⟩
    obtain ⟨s11, x11⟩ := made_one (v := v) na11 nd11 ne11
    generalize upd (upd (upd H10 a11 (exo a11 (Cs.getD 11 0) none)) d11 (exd d11 [("value", v)])) a11 (exo a11 (Cs.getD 11 0) (some d11)) = H11 at s11 x11
    refine ⟨(by show 2 ≤ sizeLine; decide), fun m2 k2 => ?_⟩
    have u2 : Same G2 H11 := s10.trans s11
    refine ⟨l2, m2, _, _, rfl, rfl, same_new k2 _ _ (u2 _ _ e2), upd_same, (by show 10 + 2 ≤ sizeLine; decide), fun l3 n3 => ?_⟩
    have t3 := (same_new (o := .lst [.ref a10, .ref a11]) k2).trans (same_new (o := .lst (([.ref a0, .ref a1, .ref a2, .ref a3, .ref a4] ++ [.ref a5, .ref a6, .ref a7, .ref a8, .ref a9]) ++ [.ref a10, .ref a11])) n3)
    have y11 := t3
    have y10 := s11.trans y11
    have z2 := s10.trans y10
    have y9 := t2.trans z2
    have y8 := s9.trans y9
    have y7 := s8.trans y8
    have y6 := s7.trans y7
    have y5 := s6.trans y6
    have z1 := s5.trans y5
    have y4 := t1.trans z1
    have y3 := s4.trans y4
    have y2 := s3.trans y3
    have y1 := s2.trans y2
    have y0 := s1.trans y1
    refine q _ l3 [a0, a1, a2, a3, a4, a5, a6, a7, a8, a9, a10, a11] (s0.trans y0) upd_same rfl fun j e he => ?_
    match j, he with
    | 0, he => cases he; exact x0.mono y0
    | 1, he => cases he; exact x1.mono y1
    | 2, he => cases he; exact x2.mono y2
    | 3, he => cases he; exact x3.mono y3
    | 4, he => cases he; exact x4.mono y4
    | 5, he => cases he; exact x5.mono y5
    | 6, he => cases he; exact x6.mono y6
    | 7, he => cases he; exact x7.mono y7
    | 8, he => cases he; exact x8.mono y8
    | 9, he => cases he; exact x9.mono y9
    | 10, he => cases he; exact x10.mono y10
    | 11, he => cases he; exact x11.mono y11
    | j + 12, he => exact absurd (List.getElem?_eq_some_iff.mp he).1 (by show ¬ (j + 12 < 12); omega)
end
end L2.Fu
/-! ## Each is of its own class alone -/
namespace L2.Fu
open PySem PySem.Spec PyProof.Rows
open PySem.W (Frag findIn subIn typeIn keepIn hasDictIn specialIn takesIn mroIn kitOne excIn)
def dFlags (j : Nat) : List PyData := [.bool (0 == j), .bool (1 == j), .bool (2 == j), .bool (3 == j), .bool (4 == j), .bool (5 == j), .bool (6 == j), .bool (7 == j), .bool (8 == j), .bool (9 == j), .bool (10 == j), .bool (11 == j), .bool (12 == j), .bool (13 == j), .bool (14 == j)]
theorem flags_eq : ∀ j, j < 15 → ((List.range 15).map fun i => V.bl (decide (V.int (0 + ((i : Nat) : Int)) = V.int ((j : Nat) : Int)))) = flagsOf j := by decide +kernel
theorem flags_shaped : ∀ j, j < 15 → SeqAt.shaped (.list (dFlags j)) = true := by decide +kernel
theorem flags_same : ∀ j, j < 15 → PyData.eqv (.list (dFlags j)) (.list (dFlags j)) = true := by decide +kernel
theorem flags_dp {K : Frag} {H : Hp} {l : Addr} {j : Nat} (h : H l = some (.lst (flagsOf j))) : Dp K H (.ref l) (.list (dFlags j)) :=
  .lst (SqL.of h) (.cons (.bl _) (.cons (.bl _) (.cons (.bl _) (.cons (.bl _) (.cons (.bl _) (.cons (.bl _) (.cons (.bl _) (.cons (.bl _) (.cons (.bl _) (.cons (.bl _) (.cons (.bl _) (.cons (.bl _) (.cons (.bl _) (.cons (.bl _) (.cons (.bl _) .nil)))))))))))))))
def spAlone (Cs : List Addr) : Sp := fun vs H Q _ => ∃ (a : Addr) (j : Nat), vs = [.ref a, .int ((j : Nat) : Int)] ∧ j < 15 ∧ IsX H a (Cs.getD j 0) ∧ ∀ H' : Hp, Same H H' → Q (.bl true) H'
section
variable {P : Program} {w : World} {K : Frag} {mg : Str → Option Value} {base : Heap} {CF : Addr} {Cs : List Addr}
theorem scAlone : FnScope ["_law_error", "_law_at", "_law_spot"] ["_law_error", "_law_at"] (defScope sAlone) := ⟨rfl, rfl, rfl, by decide +kernel, rfl, by decide +kernel, by decide +kernel⟩
theorem ok_alone {f fF : Addr} {fd fdF : FuncData} (F : Fun K "_law_alone" "_law_alone" sAlone f fd) (T : Txt K mg CF Cs) (GF : FnOk P w K mg base CX0 1 fF fdF ["_law_error"] (spFlags Cs)) (mF : mg "_law_flags" = some (.ref fF)) (kF : keepIn K (.ref fF) = true) (bF : Binds K fdF ["_law_error"] [])
    (zIs : mg "isinstance" = none) (zVE : mg "ValueError" = none) (zRange : mg "range" = none) : FnOk P w K mg base CX0 2 f fd ["_law_error", "_law_at"] (spAlone Cs) := by
  refine F.ok scAlone (fun vs H Q E h => ?_) (fun cdv A outer s H vs Q E hr h => ?_)
  · obtain ⟨a, j, rfl, _⟩ := h
    rfl
  · obtain ⟨a, j, rfl, hj, hx, q⟩ := h
    have C := T.exc hj
    refine ⟨_, pss_cons (ps_if (PW.pt (pw_or (pt_not (pt_val (pe_callB call_isX (by rfl) zIs boot_isinstance (pa_cons (pv 0) (pa_cons (pe_glob (v := .ref CF) rfl T.gF rfl) pa_nil)))))
        (pw_or1 (pt_not (pt_val (pe_callB call_isX (by rfl) zIs boot_isinstance (pa_cons (pv 0) (pa_cons (pe_bltn (v := .ty "ValueError") rfl zVE PyProof.Rows.Boot.«ValueError» rfl) pa_nil)))))))) (pss_one (ps_ret pe_bl)) pss_nil)
      (pss_one (ps_ret (pe_cmpR (op_eqD hr.units) (pe_call GF hr rfl mF kF bF .nil pass0 (pa_cons (pv 0) pa_nil))
        (pe_lc (own := [("_law_spot", 2)]) (g := gName 2) (tt := tYes) rfl scAlone.nd (pi_range1 (by rfl) zRange (pa_cons pe_int pa_nil)) (blkOk_by (N := ["_law_error", "_law_at", "_law_spot"]) (sc := defScope sAlone) (by decide +kernel)) (fun _ _ _ _ _ => pg_name (i := 2) scAlone.nd rfl (Or.inl rfl)) (fun _ _ _ _ _ => pts_nil)
          (fun _ _ _ _ _ => pe_cmpR op_eq (pv 2) (pv 1) (nomark _))) (nomark _)))), ?_⟩
    refine ⟨_, rfl, a, _, _, _, _, rfl, hx, C, .own _, T.kitF hj, _, rfl, iteF ⟨_, rfl, a, _, _, _, _, rfl, hx, C, .ty _, T.kitV hj, _, rfl, iteF ?_⟩⟩
    refine ⟨_, rfl, a, j, rfl, hj, hx, fun H1 l s1 e1 => ?_⟩
    refine ⟨15, rfl, by decide, by decide, fun D nD => ?_⟩
    refine lc_range (n := 15) (fun i Hc => Same H1 Hc ∧ Hc D = some (.lst ((List.range i).map fun i => V.bl (decide (V.int (0 + ((i : Nat) : Int)) = V.int ((j : Nat) : Int)))))) ⟨same_new nD, upd_same⟩ ?_ ?_
    · rintro i Hc hi ⟨sc, ec⟩
      refine ⟨rfl, _, rfl, _, rfl, rfl, _, ec, ?_, fun b o k => ?_, ?_⟩
      · rw [List.length_map, List.length_range]
        exact Nat.lt_trans hi (by decide)
      · rw [upd_ne (ne_of_none k nD)]
        exact sc b o k
      · rw [upd_same, List.range_succ, List.map_append]
        rfl
    · rintro Hc ⟨sc, ec⟩
      rw [flags_eq j hj] at ec
      refine ⟨_, _, flags_dp (sc _ _ e1), flags_dp ec, flags_shaped j hj, flags_shaped j hj, ?_⟩
      rw [flags_same j hj]
      exact q Hc (s1.trans sc)
end

/-! ## The law -/
def spRight : Sp := fun vs H Q _ => ∃ (H0 : Hp) (p : Addr), vs = [.ref p] ∧ Hand H0 H p 0 ∧ ∀ H' : Hp, Same H0 H' → Q (.bl true) H'
def spLaw (K : Frag) : Sp := fun vs H Q _ => ∃ (a : Addr) (ns : List Int), vs = [.ref a] ∧ SqL K H a (ns.map V.int) ∧ ns.length ≤ 63 ∧ ∀ H', Q (.bl true) H'
section
variable {P : Program} {w : World} {K : Frag} {mg : Str → Option Value} {base : Heap} {CF : Addr} {Cs : List Addr}
theorem all_true : ∀ n : Nat, (List.replicate n true).all id = true
  | 0 => rfl
  | n + 1 => by rw [List.replicate_succ, List.all_cons, all_true n]; rfl
theorem snoc_true (n : Nat) : (List.replicate n true).map V.bl ++ [V.bl true] = (List.replicate (n + 1) true).map V.bl := by
  rw [List.replicate_succ', List.map_append]
  rfl
theorem scRight : FnScope ["_law_hand_here", "_law_turn", "_law_thing", "_law_shown", "_law_at", "_law_error", "_law_bare"] ["_law_hand_here"] (defScope sRight) := ⟨rfl, rfl, rfl, by decide +kernel, rfl, by decide +kernel, by decide +kernel⟩
theorem ok_right {f fO fM fA : Addr} {fd fdO fdM fdA : FuncData} (F : Fun K "_law_right" "_law_right" sRight f fd) (T : Txt K mg CF Cs)
    (GO : FnOk P w K mg base CX0 3 fO fdO ["_law_hand_here"] spOdd) (mO : mg "_law_odd" = some (.ref fO)) (kO : keepIn K (.ref fO) = true) (bO : Binds K fdO ["_law_hand_here"] [])
    (GM : FnOk P w K mg base CX0 3 fM fdM ["_law_thing"] (spMade Cs)) (mM : mg "_law_made" = some (.ref fM)) (kM : keepIn K (.ref fM) = true) (bM : Binds K fdM ["_law_thing"] [])
    (GA : FnOk P w K mg base CX0 2 fA fdA ["_law_error", "_law_at"] (spAlone Cs)) (mA : mg "_law_alone" = some (.ref fA)) (kA : keepIn K (.ref fA) = true) (bA : Binds K fdA ["_law_error", "_law_at"] [])
    (zRange : mg "range" = none) (zRepr : mg "repr" = none) (zEnum : mg "enumerate" = none) (zAll : mg "all" = none) : FnG P w K mg base CX0 4 f fd ["_law_hand_here"] spRight := by
  refine Fun.okG F scRight (fun vs H Q E h => ?_) (fun cdv A outer s H vs Q E gd hr h => ?_)
  · obtain ⟨H0, p, rfl, _⟩ := h
    rfl
  · obtain ⟨H0, p, rfl, hh, q⟩ := h
    have ex := fun j (h : j < 3) => List.all_eq_true.mp T.bare j (List.mem_range.mpr h)
    refine ⟨_, pss_cons (ps_for PassesOwn.never rfl (pi_range1 (by rfl) zRange (pa_cons pe_int pa_nil)) (pg_name (i := 1) scRight.nd rfl (.inl rfl))
        (pss_cons (ps_set (i := 2) scRight.nd rfl (.inl rfl) (pe_call GO hr rfl mO kO bO .nil pass0 (pa_cons (pv 0) pa_nil)))
        (pss_cons (ps_set (i := 3) scRight.nd rfl (.inl rfl) (pe_callB (call_reprD gd hr.units) (by rfl) zRepr PyProof.Rows.boot_repr (pa_cons (pv 2) pa_nil)))
        (pss_one (ps_for PassesOwn.never rfl (pi_enum (by rfl) zEnum (pa_cons (pe_call GM hr rfl mM kM bM .nil pass0 (pa_cons (pv 2) pa_nil)) pa_nil))
            (pg_tup rfl (pgs_cons (pg_name (i := 4) scRight.nd rfl (.inl rfl)) (pgs_cons (pg_name (i := 5) scRight.nd rfl (.inl rfl)) pgs_nil)))
          (pss_one (ps_if (PW.pt (pw_or (pt_cmpR op_ne (pe_callB (call_reprD gd hr.units) (by rfl) zRepr PyProof.Rows.boot_repr (pa_cons (pe_xv (pv 5)) pa_nil)) (pv 3) (nomark _))
            (pw_or1 (pt_not (pt_val (pe_call GA (hr.mono (by decide)) rfl mA kA bA .nil pass0 (pa_cons (pv 5) (pa_cons (pv 4) pa_nil)))))))) (pss_one (ps_ret pe_bl)) pss_nil)))))))
      (pss_cons (ps_set (i := 6) scRight.nd rfl (.inl rfl) (pe_lst (pa_cons (pe_exc0 PySem.F.excBase_ValueError (ex 0 (by decide)) (T.g 12 (by decide)) (T.kp (by decide)) rfl) (pa_cons (pe_exc0 PySem.F.excBase_ValueError (ex 1 (by decide)) (T.g 13 (by decide)) (T.kp (by decide)) rfl)
        (pa_cons (pe_exc0 PySem.F.excBase_ValueError (ex 2 (by decide)) (T.g 14 (by decide)) (T.kp (by decide)) rfl) pa_nil)))))
      (pss_one (ps_ret (pe_callB (cr_all rfl) (by rfl) zAll PyProof.Rows.boot_all (pa_cons
        (pe_lc (own := [("_law_at", 4), ("_law_error", 5)]) (g := gTup K 2 (gCons (gName 4) (gCons (gName 5) gNil))) (tt := tYes) rfl scRight.nd (pi_enum (by rfl) zEnum (pa_cons (pv 6) pa_nil)) (blkOk_by (N := ["_law_hand_here", "_law_turn", "_law_thing", "_law_shown", "_law_at", "_law_error", "_law_bare"]) (sc := defScope sRight) (by decide +kernel))
          (fun _ _ _ _ _ => pg_tup rfl (pgs_cons (pg_name (i := 4) scRight.nd rfl (.inl rfl)) (pgs_cons (pg_name (i := 5) scRight.nd rfl (.inl rfl)) pgs_nil))) (fun _ _ _ _ _ => pts_nil)
          (fun _ _ _ _ _ => pe_call GA (hr.mono (by decide)) rfl mA kA bA .nil pass0 (pa_cons (pv 5) (pa_cons (pe_op op_add pe_int (pv 4)) pa_nil)))) pa_nil))))), ?_⟩
    refine ⟨12, rfl, by decide, by decide, for_range (n := 12) (fun i σ Hc => ∃ (H1 : Hp) (a b c d e g : Option V), σ = [some (.ref p), a, b, c, d, e, g] ∧ Same H0 H1 ∧ Hand H1 Hc p (30 * i)) ⟨H0, none, none, none, none, none, none, rfl, Same.refl _, hh⟩ ?_ ?_⟩
    · rintro i σ Hc hi ⟨H1, a, b, c, d, e, g, rfl, s1, hc⟩
      refine ⟨_, rfl, H1, p, 30 * i, rfl, by omega, hc, fun H2 H3 v dt s2 h3 dv sd => ?_⟩
      refine ⟨_, rfl, v, dt, rfl, dv.mono h3.1, sd.more (by decide) (by decide), ?_⟩
      refine ⟨_, rfl, v, rfl, fun H4 l es s4 el len xs => ?_⟩
      have k4 : Hand H2 H4 p (30 * (i + 1)) := by
        obtain ⟨t0, z, g1, a1, c1, ep, r⟩ := h3.mono (n := 30 * (i + 1)) (by omega)
        exact ⟨t0.trans s4, z, g1, a1, c1, s4 _ _ ep, r⟩
      have d4 := dv.mono k4.1
      refine ⟨l, _, rfl, SqL.of el, for_enum (xs := es.map V.ref) (fun j σ Hc => ∃ (a b c : Option V), σ = [some (.ref p), a, some v, some (.str dt.shown), b, c, g] ∧ Same H4 Hc) ⟨_, _, _, rfl, Same.refl _⟩ (fun j σ Hc ⟨_, _, _, _, sj⟩ => SqL.of (sj _ _ el)) ?_ ?_⟩
      · rintro j x t σ Hd hx nt ⟨a2, b2, c2, rfl, sj⟩
        rw [List.getElem?_map] at hx
        cases he : es[j]? with
        | none => rw [he] at hx; cases hx
        | some ad =>
          rw [he] at hx
          cases hx
          have lj : j < 12 := by rw [← len]; exact (List.getElem?_eq_some_iff.mp he).1
          have xv := (xs j ad he).mono (sj.trans (same_new (o := .tup [.int ((j : Nat) : Int), .ref ad]) nt))
          obtain ⟨dd, xa, xd⟩ := id xv
          refine ⟨t, _, rfl, SqT.of upd_same, rfl, _, _, rfl, _, _, rfl, rfl, ?_⟩
          refine ⟨_, rfl, ad, _, dd, _, v, rfl, T.xf (by omega), T.val lj, xa, xd, rfl, v, dt, rfl, d4.mono (sj.trans (same_new nt)), sd.more (by decide) (by decide), _, rfl, rfl, _, rfl, ?_⟩
          rw [decide_eq_true rfl]
          refine iteF ⟨_, rfl, _, rfl, ad, j, rfl, by omega, xv.is, fun H5 s5 => ⟨_, rfl, iteF ?_⟩⟩
          exact ⟨_, _, _, rfl, sj.trans ((same_new nt).trans s5)⟩
      · rintro σ Hd ⟨a2, b2, c2, rfl, sj⟩
        refine ⟨H2, _, _, _, _, _, _, rfl, s1.trans s2, ?_⟩
        obtain ⟨t0, z, g1, a1, c1, ep, r⟩ := k4
        exact ⟨t0.trans sj, z, g1, a1, c1, sj _ _ ep, r⟩
    · rintro σ Hc ⟨H1, a, b, c, d, e, g, rfl, s1, hc⟩
      have s0 : Same H0 Hc := s1.trans hc.1
      intro x0 n0
      have t0 := same_new (o := ExO (.ref (Cs.getD 12 0)) x0) n0
      have y0 : IsX (upd Hc x0 (ExO (.ref (Cs.getD 12 0)) x0)) x0 (Cs.getD 12 0) := .inr upd_same
      generalize upd Hc x0 (ExO (.ref (Cs.getD (12 + 0) 0)) x0) = G0 at t0 y0
      intro x1 n1
      have t1 := same_new (o := ExO (.ref (Cs.getD 13 0)) x1) n1
      have y1 : IsX (upd G0 x1 (ExO (.ref (Cs.getD 13 0)) x1)) x1 (Cs.getD 13 0) := .inr upd_same
      generalize upd G0 x1 (ExO (.ref (Cs.getD (12 + 1) 0)) x1) = G1 at t1 y1
      intro x2 n2
      have t2 := same_new (o := ExO (.ref (Cs.getD 14 0)) x2) n2
      have y2 : IsX (upd G1 x2 (ExO (.ref (Cs.getD 14 0)) x2)) x2 (Cs.getD 14 0) := .inr upd_same
      generalize upd G1 x2 (ExO (.ref (Cs.getD (12 + 2) 0)) x2) = G2 at t2 y2
      refine ⟨(by show 3 ≤ sizeLine; decide), fun l nl => ?_⟩
      have t3 := same_new (o := .lst [.ref x0, .ref x1, .ref x2]) nl
      have el : upd G2 l (.lst [.ref x0, .ref x1, .ref x2]) l = _ := upd_same
      have all3 : ∀ (j : Nat) (ad : Addr), [x0, x1, x2][j]? = some ad → IsX (upd G2 l (.lst [.ref x0, .ref x1, .ref x2])) ad (Cs.getD (12 + j) 0) := by
        intro j ad he
        match j, he with
        | 0, he => cases he; exact y0.mono (t1.trans (t2.trans t3))
        | 1, he => cases he; exact y1.mono (t2.trans t3)
        | 2, he => cases he; exact y2.mono t3
        | j + 3, he => exact absurd (List.getElem?_eq_some_iff.mp he).1 (by show ¬ (j + 3 < 3); omega)
      have s3 := s0.trans (t0.trans (t1.trans (t2.trans t3)))
      generalize upd G2 l (.lst [.ref x0, .ref x1, .ref x2]) = G3 at s3 el all3
      refine ⟨_, rfl, l, _, rfl, SqL.of el, fun D nD => lc_enum (xs := [.ref x0, .ref x1, .ref x2]) (fun i Hd => Same G3 Hd ∧ Hd D = some (.lst ((List.replicate i true).map V.bl))) ⟨same_new nD, upd_same⟩ (fun i Hd hd => SqL.of (hd.1 _ _ el)) ?_ ?_⟩
      · rintro i x t Hd hx nt ⟨sd, ed⟩
        have hx' : ([x0, x1, x2].map V.ref)[i]? = some x := hx
        rw [List.getElem?_map] at hx'
        cases he : [x0, x1, x2][i]? with
        | none => rw [he] at hx'; cases hx'
        | some ad =>
          rw [he] at hx'
          cases hx'
          have li : i < 3 := (List.getElem?_eq_some_iff.mp he).1
          have st := sd.trans (same_new (o := .tup [.int ((i : Nat) : Int), .ref ad]) nt)
          refine ⟨t, _, rfl, SqT.of upd_same, rfl, _, _, rfl, _, _, rfl, rfl, rfl, ?_⟩
          refine ⟨_, rfl, _, rfl, _, _, rfl, rfl, ad, 12 + i, ?_, by omega, (all3 i ad he).mono st, fun H5 s5 => ?_⟩
          · show [V.ref ad, V.int (12 + ((i : Nat) : Int))] = [V.ref ad, V.int (((12 + i : Nat)) : Int)]
            rw [Int.natCast_add]
            rfl
          · refine ⟨_, s5 _ _ (same_new nt _ _ ed), ?_, fun b o k => ?_, ?_⟩
            · rw [List.length_map, List.length_replicate]
              exact Nat.lt_trans li (by decide)
            · rw [upd_ne (ne_of_none k nD)]
              exact s5 _ _ (st b o k)
            · rw [upd_same, snoc_true]
      · rintro Hd ⟨sd, ed⟩
        refine ⟨D, List.replicate 3 true, rfl, SqL.of ed, ?_⟩
        rw [all_true]
        exact q Hd (s3.trans sd)
theorem scLaw : FnScope ["_law_script", "_law_k"] ["_law_script"] (defScope sLaw) := ⟨rfl, rfl, rfl, by decide +kernel, rfl, by decide +kernel, by decide +kernel⟩
theorem ok_law {f fH fR : Addr} {fd fdH fdR : FuncData} (F : Fun K "law" "law" sLaw f fd)
    (GH : FnOk P w K mg base CX0 1 fH fdH ["_law_script", "_law_k"] (spHand K)) (mH : mg "_law_hand" = some (.ref fH)) (kH : keepIn K (.ref fH) = true) (bH : Binds K fdH ["_law_script", "_law_k"] [])
    (GR : FnG P w K mg base CX0 4 fR fdR ["_law_hand_here"] spRight) (mR : mg "_law_right" = some (.ref fR)) (kR : keepIn K (.ref fR) = true) (bR : Binds K fdR ["_law_hand_here"] [])
    (zRange : mg "range" = none) (zAll : mg "all" = none) (zMax : mg "max" = none) (zMin : mg "min" = none) (zLen : mg "len" = none) : FnG P w K mg base CX0 5 f fd ["_law_script"] (spLaw K) := by
  refine Fun.okG F scLaw (fun vs H Q E h => ?_) (fun cdv A outer s H vs Q E gd hr h => ?_)
  · obtain ⟨a, ns, rfl, _⟩ := h
    rfl
  · obtain ⟨a, ns, rfl, hS, hlen, q⟩ := h
    refine ⟨_, pss_one (ps_ret (pe_callB (cr_all rfl) (by rfl) zAll PyProof.Rows.boot_all (pa_cons
      (pe_lc (own := [("_law_k", 1)]) (g := gName 1) (tt := tYes) rfl scLaw.nd (pi_range1 (by rfl) zRange (pa_cons (pe_callB (call_max2 rfl) (by rfl) zMax PyProof.Rows.boot_max (pa_cons pe_int (pa_cons (pe_callB (call_min2 rfl) (by rfl) zMin PyProof.Rows.boot_min (pa_cons pe_int (pa_cons (pe_callB call_len_seq (by rfl) zLen PySem.boot_len (pa_cons (pv 0) pa_nil)) pa_nil))) pa_nil))) pa_nil))
        (blkOk_by (N := ["_law_script", "_law_k"]) (sc := defScope sLaw) (by decide +kernel)) (fun _ _ _ _ _ => pg_name (i := 1) scLaw.nd rfl (.inl rfl)) (fun _ _ _ _ _ => pts_nil)
        (fun _ _ _ _ _ => pe_callG GR gd hr rfl mR kR bR .nil pass0 (pa_cons (pe_call GH (hr.mono (by decide)) rfl mH kH bH .nil pass0 (pa_cons (pv 0) (pa_cons (pv 1) pa_nil))) pa_nil))) pa_nil))), ?_⟩
    have most : ∃ n : Int, (if (if ((ns.map V.int).length : Int) < 3 then ((ns.map V.int).length : Int) else 3) > 1 then (if ((ns.map V.int).length : Int) < 3 then ((ns.map V.int).length : Int) else 3) else 1) = n ∧ 0 ≤ n ∧ n ≤ 3 := by
      refine ⟨_, rfl, ?_, ?_⟩
      · split <;> omega
      · split <;> split <;> omega
    obtain ⟨n, en, n0, n3⟩ := most
    refine ⟨_, rfl, a, _, rfl, .inl hS, _, _, rfl, _, _, rfl, _, rfl, ?_, ?_, fun D nD => ?_⟩
    · rw [en]; omega
    · rw [en]; omega
    rw [en]
    refine lc_range (n := n.toNat) (fun i Hc => Same H Hc ∧ Hc D = some (.lst ((List.replicate i true).map V.bl))) ⟨same_new nD, upd_same⟩ ?_ ?_
    · rintro i Hc hi ⟨sc, ec⟩
      refine ⟨rfl, _, rfl, _, rfl, a, ns, _, rfl, sc.seq hS, by omega, by omega, fun H1 p h1 => ?_⟩
      refine ⟨Hc, p, rfl, h1, fun H2 s2 => ?_⟩
      refine ⟨_, s2 _ _ ec, ?_, fun b o k => ?_, ?_⟩
      · rw [List.length_map, List.length_replicate]
        exact Nat.lt_trans (show i < 3 by omega) (by decide)
      · rw [upd_ne (ne_of_none k nD)]
        exact s2 _ _ (sc b o k)
      · rw [upd_same, snoc_true]
    · rintro Hc ⟨sc, ec⟩
      refine ⟨D, List.replicate n.toNat true, rfl, SqL.of ec, ?_⟩
      rw [all_true]
      exact q Hc
end
end L2.Fu
/-! ## What the top has written, and the end -/
namespace L2.Fu
open PySem PySem.Spec PyProof.Rows
open PySem.W (Frag findIn subIn typeIn keepIn hasDictIn specialIn takesIn mroIn kitOne excIn nsIn codeIn)
abbrev sI0 : Stmt := inClass (top 2) 0
theorem scI0 : FnScope ["self", "value"] ["self", "value"] (defScope sI0) := ⟨rfl, rfl, rfl, by decide +kernel, rfl, by decide +kernel, by decide +kernel⟩
abbrev sI1 : Stmt := inClass (top 3) 0
theorem scI1 : FnScope ["self", "value"] ["self", "value"] (defScope sI1) := ⟨rfl, rfl, rfl, by decide +kernel, rfl, by decide +kernel, by decide +kernel⟩
abbrev sI2 : Stmt := inClass (top 4) 0
theorem scI2 : FnScope ["self", "value"] ["self", "value"] (defScope sI2) := ⟨rfl, rfl, rfl, by decide +kernel, rfl, by decide +kernel, by decide +kernel⟩
abbrev sI3 : Stmt := inClass (top 5) 0
theorem scI3 : FnScope ["self", "value"] ["self", "value"] (defScope sI3) := ⟨rfl, rfl, rfl, by decide +kernel, rfl, by decide +kernel, by decide +kernel⟩
abbrev sI4 : Stmt := inClass (top 6) 0
theorem scI4 : FnScope ["self", "value"] ["self", "value"] (defScope sI4) := ⟨rfl, rfl, rfl, by decide +kernel, rfl, by decide +kernel, by decide +kernel⟩
abbrev sI5 : Stmt := inClass (top 7) 0
theorem scI5 : FnScope ["self", "value"] ["self", "value"] (defScope sI5) := ⟨rfl, rfl, rfl, by decide +kernel, rfl, by decide +kernel, by decide +kernel⟩
abbrev sI6 : Stmt := inClass (top 8) 0
theorem scI6 : FnScope ["self", "value"] ["self", "value"] (defScope sI6) := ⟨rfl, rfl, rfl, by decide +kernel, rfl, by decide +kernel, by decide +kernel⟩
abbrev sI7 : Stmt := inClass (top 9) 0
theorem scI7 : FnScope ["self", "value"] ["self", "value"] (defScope sI7) := ⟨rfl, rfl, rfl, by decide +kernel, rfl, by decide +kernel, by decide +kernel⟩
abbrev sI8 : Stmt := inClass (top 10) 0
theorem scI8 : FnScope ["self", "value"] ["self", "value"] (defScope sI8) := ⟨rfl, rfl, rfl, by decide +kernel, rfl, by decide +kernel, by decide +kernel⟩
abbrev sI9 : Stmt := inClass (top 11) 0
theorem scI9 : FnScope ["self", "value"] ["self", "value"] (defScope sI9) := ⟨rfl, rfl, rfl, by decide +kernel, rfl, by decide +kernel, by decide +kernel⟩
abbrev sI10 : Stmt := inClass (top 12) 0
theorem scI10 : FnScope ["self", "value"] ["self", "value"] (defScope sI10) := ⟨rfl, rfl, rfl, by decide +kernel, rfl, by decide +kernel, by decide +kernel⟩
abbrev sI11 : Stmt := inClass (top 13) 0
theorem scI11 : FnScope ["self", "value"] ["self", "value"] (defScope sI11) := ⟨rfl, rfl, rfl, by decide +kernel, rfl, by decide +kernel, by decide +kernel⟩
theorem all_mk {l : PySem.W.OpenLaw} {w : World} {K : Frag} {h : Heap} {mg : Str → Option Value} {fa : Addr} {CF C0 C1 C2 C3 C4 C5 C6 C7 C8 C9 C10 C11 C12 C13 C14 fI0 fI1 fI2 fI3 fI4 fI5 fI6 fI7 fI8 fI9 fI10 fI11 fHand fTake fOf fOdd fFlags fMade fAlone fRight fLaw : Addr}
    {odI0 anI0 odI1 anI1 odI2 anI2 odI3 anI3 odI4 anI4 odI5 anI5 odI6 anI6 odI7 anI7 odI8 anI8 odI9 anI9 odI10 anI10 odI11 anI11 odHand anHand odTake anTake odOf anOf odOdd anOdd odFlags anFlags odMade anMade odAlone anAlone odRight anRight odLaw anLaw : Option Addr}
    {slI0 slI1 slI2 slI3 slI4 slI5 slI6 slI7 slI8 slI9 slI10 slI11 slHand slTake slOf slOdd slFlags slMade slAlone slRight slLaw : Array (Option Value)}
    {ocI0 kVI0 dcI0 pmI0 cdI0 ctI0 ocI1 kVI1 dcI1 pmI1 cdI1 ctI1 ocI2 kVI2 dcI2 pmI2 cdI2 ctI2 ocI3 kVI3 dcI3 pmI3 cdI3 ctI3 ocI4 kVI4 dcI4 pmI4 cdI4 ctI4 ocI5 kVI5 dcI5 pmI5 cdI5 ctI5 ocI6 kVI6 dcI6 pmI6 cdI6 ctI6 ocI7 kVI7 dcI7 pmI7 cdI7 ctI7 ocI8 kVI8 dcI8 pmI8 cdI8 ctI8 ocI9 kVI9 dcI9 pmI9 cdI9 ctI9 ocI10 kVI10 dcI10 pmI10 cdI10 ctI10 ocI11 kVI11 dcI11 pmI11 cdI11 ctI11 ocHand kVHand dcHand pmHand cdHand ctHand ocTake kVTake dcTake pmTake cdTake ctTake ocOf kVOf dcOf pmOf cdOf ctOf ocOdd kVOdd dcOdd pmOdd cdOdd ctOdd ocFlags kVFlags dcFlags pmFlags cdFlags ctFlags ocMade kVMade dcMade pmMade cdMade ctMade ocAlone kVAlone dcAlone pmAlone cdAlone ctAlone ocRight kVRight dcRight pmRight cdRight ctRight ocLaw kVLaw dcLaw pmLaw cdLaw ctLaw : Value}
    (X : K.In h) (G : h.Ns mainGlobals mg) (hfa : mg "law" = some (.ref fa))
    (aF : nsIn K mainGlobals "FeatureError" = some (some (.ref CF)))
    (aC0 : nsIn K mainGlobals "BadRequest" = some (some (.ref C0)))
    (aC1 : nsIn K mainGlobals "BadUsers" = some (some (.ref C1)))
    (aC2 : nsIn K mainGlobals "UnknownUser" = some (some (.ref C2)))
    (aC3 : nsIn K mainGlobals "NoHull" = some (some (.ref C3)))
    (aC4 : nsIn K mainGlobals "NotAdditive" = some (some (.ref C4)))
    (aC5 : nsIn K mainGlobals "BadLibrary" = some (some (.ref C5)))
    (aC6 : nsIn K mainGlobals "BadName" = some (some (.ref C6)))
    (aC7 : nsIn K mainGlobals "TakenName" = some (some (.ref C7)))
    (aC8 : nsIn K mainGlobals "BadItems" = some (some (.ref C8)))
    (aC9 : nsIn K mainGlobals "BadNumber" = some (some (.ref C9)))
    (aC10 : nsIn K mainGlobals "BadText" = some (some (.ref C10)))
    (aC11 : nsIn K mainGlobals "BadLine" = some (some (.ref C11)))
    (aC12 : nsIn K mainGlobals "OtherManifest" = some (some (.ref C12)))
    (aC13 : nsIn K mainGlobals "FullBuild" = some (some (.ref C13)))
    (aC14 : nsIn K mainGlobals "NothingToUndo" = some (some (.ref C14)))
    (aI0 : findIn K (.ref C0) "__init__" = some (some (.ref fI0)))
    (tI0 : typeIn K (.ref fI0) = some (.type "function"))
    (lI0 : K.lookup fI0 = some ⟨ocI0, odI0, .func (PySem.W.fnOf "__init__" "BadRequest.__init__" (defArgs sI0) (defBody sI0) (defScope sI0) .none kVI0 dcI0 pmI0 anI0 cdI0 ctI0), slI0⟩)
    (cI0 : codeIn K cdI0 "BadRequest.__init__" = true)
    (kI0 : keepIn K (.ref fI0) = true)
    (aI1 : findIn K (.ref C1) "__init__" = some (some (.ref fI1)))
    (tI1 : typeIn K (.ref fI1) = some (.type "function"))
    (lI1 : K.lookup fI1 = some ⟨ocI1, odI1, .func (PySem.W.fnOf "__init__" "BadUsers.__init__" (defArgs sI1) (defBody sI1) (defScope sI1) .none kVI1 dcI1 pmI1 anI1 cdI1 ctI1), slI1⟩)
    (cI1 : codeIn K cdI1 "BadUsers.__init__" = true)
    (kI1 : keepIn K (.ref fI1) = true)
    (aI2 : findIn K (.ref C2) "__init__" = some (some (.ref fI2)))
    (tI2 : typeIn K (.ref fI2) = some (.type "function"))
    (lI2 : K.lookup fI2 = some ⟨ocI2, odI2, .func (PySem.W.fnOf "__init__" "UnknownUser.__init__" (defArgs sI2) (defBody sI2) (defScope sI2) .none kVI2 dcI2 pmI2 anI2 cdI2 ctI2), slI2⟩)
    (cI2 : codeIn K cdI2 "UnknownUser.__init__" = true)
    (kI2 : keepIn K (.ref fI2) = true)
    (aI3 : findIn K (.ref C3) "__init__" = some (some (.ref fI3)))
    (tI3 : typeIn K (.ref fI3) = some (.type "function"))
    (lI3 : K.lookup fI3 = some ⟨ocI3, odI3, .func (PySem.W.fnOf "__init__" "NoHull.__init__" (defArgs sI3) (defBody sI3) (defScope sI3) .none kVI3 dcI3 pmI3 anI3 cdI3 ctI3), slI3⟩)
    (cI3 : codeIn K cdI3 "NoHull.__init__" = true)
    (kI3 : keepIn K (.ref fI3) = true)
    (aI4 : findIn K (.ref C4) "__init__" = some (some (.ref fI4)))
    (tI4 : typeIn K (.ref fI4) = some (.type "function"))
    (lI4 : K.lookup fI4 = some ⟨ocI4, odI4, .func (PySem.W.fnOf "__init__" "NotAdditive.__init__" (defArgs sI4) (defBody sI4) (defScope sI4) .none kVI4 dcI4 pmI4 anI4 cdI4 ctI4), slI4⟩)
    (cI4 : codeIn K cdI4 "NotAdditive.__init__" = true)
    (kI4 : keepIn K (.ref fI4) = true)
    (aI5 : findIn K (.ref C5) "__init__" = some (some (.ref fI5)))
    (tI5 : typeIn K (.ref fI5) = some (.type "function"))
    (lI5 : K.lookup fI5 = some ⟨ocI5, odI5, .func (PySem.W.fnOf "__init__" "BadLibrary.__init__" (defArgs sI5) (defBody sI5) (defScope sI5) .none kVI5 dcI5 pmI5 anI5 cdI5 ctI5), slI5⟩)
    (cI5 : codeIn K cdI5 "BadLibrary.__init__" = true)
    (kI5 : keepIn K (.ref fI5) = true)
    (aI6 : findIn K (.ref C6) "__init__" = some (some (.ref fI6)))
    (tI6 : typeIn K (.ref fI6) = some (.type "function"))
    (lI6 : K.lookup fI6 = some ⟨ocI6, odI6, .func (PySem.W.fnOf "__init__" "BadName.__init__" (defArgs sI6) (defBody sI6) (defScope sI6) .none kVI6 dcI6 pmI6 anI6 cdI6 ctI6), slI6⟩)
    (cI6 : codeIn K cdI6 "BadName.__init__" = true)
    (kI6 : keepIn K (.ref fI6) = true)
    (aI7 : findIn K (.ref C7) "__init__" = some (some (.ref fI7)))
    (tI7 : typeIn K (.ref fI7) = some (.type "function"))
    (lI7 : K.lookup fI7 = some ⟨ocI7, odI7, .func (PySem.W.fnOf "__init__" "TakenName.__init__" (defArgs sI7) (defBody sI7) (defScope sI7) .none kVI7 dcI7 pmI7 anI7 cdI7 ctI7), slI7⟩)
    (cI7 : codeIn K cdI7 "TakenName.__init__" = true)
    (kI7 : keepIn K (.ref fI7) = true)
    (aI8 : findIn K (.ref C8) "__init__" = some (some (.ref fI8)))
    (tI8 : typeIn K (.ref fI8) = some (.type "function"))
    (lI8 : K.lookup fI8 = some ⟨ocI8, odI8, .func (PySem.W.fnOf "__init__" "BadItems.__init__" (defArgs sI8) (defBody sI8) (defScope sI8) .none kVI8 dcI8 pmI8 anI8 cdI8 ctI8), slI8⟩)
    (cI8 : codeIn K cdI8 "BadItems.__init__" = true)
    (kI8 : keepIn K (.ref fI8) = true)
    (aI9 : findIn K (.ref C9) "__init__" = some (some (.ref fI9)))
    (tI9 : typeIn K (.ref fI9) = some (.type "function"))
    (lI9 : K.lookup fI9 = some ⟨ocI9, odI9, .func (PySem.W.fnOf "__init__" "BadNumber.__init__" (defArgs sI9) (defBody sI9) (defScope sI9) .none kVI9 dcI9 pmI9 anI9 cdI9 ctI9), slI9⟩)
    (cI9 : codeIn K cdI9 "BadNumber.__init__" = true)
    (kI9 : keepIn K (.ref fI9) = true)
    (aI10 : findIn K (.ref C10) "__init__" = some (some (.ref fI10)))
    (tI10 : typeIn K (.ref fI10) = some (.type "function"))
    (lI10 : K.lookup fI10 = some ⟨ocI10, odI10, .func (PySem.W.fnOf "__init__" "BadText.__init__" (defArgs sI10) (defBody sI10) (defScope sI10) .none kVI10 dcI10 pmI10 anI10 cdI10 ctI10), slI10⟩)
    (cI10 : codeIn K cdI10 "BadText.__init__" = true)
    (kI10 : keepIn K (.ref fI10) = true)
    (aI11 : findIn K (.ref C11) "__init__" = some (some (.ref fI11)))
    (tI11 : typeIn K (.ref fI11) = some (.type "function"))
    (lI11 : K.lookup fI11 = some ⟨ocI11, odI11, .func (PySem.W.fnOf "__init__" "BadLine.__init__" (defArgs sI11) (defBody sI11) (defScope sI11) .none kVI11 dcI11 pmI11 anI11 cdI11 ctI11), slI11⟩)
    (cI11 : codeIn K cdI11 "BadLine.__init__" = true)
    (kI11 : keepIn K (.ref fI11) = true)
    (aHand : nsIn K mainGlobals "_law_hand" = some (some (.ref fHand)))
    (lHand : K.lookup fHand = some ⟨ocHand, odHand, .func (PySem.W.fnOf "_law_hand" "_law_hand" (defArgs sHand) (defBody sHand) (defScope sHand) .none kVHand dcHand pmHand anHand cdHand ctHand), slHand⟩)
    (cHand : codeIn K cdHand "_law_hand" = true)
    (kHand : keepIn K (.ref fHand) = true)
    (aTake : nsIn K mainGlobals "_law_take" = some (some (.ref fTake)))
    (lTake : K.lookup fTake = some ⟨ocTake, odTake, .func (PySem.W.fnOf "_law_take" "_law_take" (defArgs sTake) (defBody sTake) (defScope sTake) .none kVTake dcTake pmTake anTake cdTake ctTake), slTake⟩)
    (cTake : codeIn K cdTake "_law_take" = true)
    (kTake : keepIn K (.ref fTake) = true)
    (aOf : nsIn K mainGlobals "_law_of" = some (some (.ref fOf)))
    (lOf : K.lookup fOf = some ⟨ocOf, odOf, .func (PySem.W.fnOf "_law_of" "_law_of" (defArgs sOf) (defBody sOf) (defScope sOf) .none kVOf dcOf pmOf anOf cdOf ctOf), slOf⟩)
    (cOf : codeIn K cdOf "_law_of" = true)
    (kOf : keepIn K (.ref fOf) = true)
    (aOdd : nsIn K mainGlobals "_law_odd" = some (some (.ref fOdd)))
    (lOdd : K.lookup fOdd = some ⟨ocOdd, odOdd, .func (PySem.W.fnOf "_law_odd" "_law_odd" (defArgs sOdd) (defBody sOdd) (defScope sOdd) .none kVOdd dcOdd pmOdd anOdd cdOdd ctOdd), slOdd⟩)
    (cOdd : codeIn K cdOdd "_law_odd" = true)
    (kOdd : keepIn K (.ref fOdd) = true)
    (aFlags : nsIn K mainGlobals "_law_flags" = some (some (.ref fFlags)))
    (lFlags : K.lookup fFlags = some ⟨ocFlags, odFlags, .func (PySem.W.fnOf "_law_flags" "_law_flags" (defArgs sFlags) (defBody sFlags) (defScope sFlags) .none kVFlags dcFlags pmFlags anFlags cdFlags ctFlags), slFlags⟩)
    (cFlags : codeIn K cdFlags "_law_flags" = true)
    (kFlags : keepIn K (.ref fFlags) = true)
    (aMade : nsIn K mainGlobals "_law_made" = some (some (.ref fMade)))
    (lMade : K.lookup fMade = some ⟨ocMade, odMade, .func (PySem.W.fnOf "_law_made" "_law_made" (defArgs sMade) (defBody sMade) (defScope sMade) .none kVMade dcMade pmMade anMade cdMade ctMade), slMade⟩)
    (cMade : codeIn K cdMade "_law_made" = true)
    (kMade : keepIn K (.ref fMade) = true)
    (aAlone : nsIn K mainGlobals "_law_alone" = some (some (.ref fAlone)))
    (lAlone : K.lookup fAlone = some ⟨ocAlone, odAlone, .func (PySem.W.fnOf "_law_alone" "_law_alone" (defArgs sAlone) (defBody sAlone) (defScope sAlone) .none kVAlone dcAlone pmAlone anAlone cdAlone ctAlone), slAlone⟩)
    (cAlone : codeIn K cdAlone "_law_alone" = true)
    (kAlone : keepIn K (.ref fAlone) = true)
    (aRight : nsIn K mainGlobals "_law_right" = some (some (.ref fRight)))
    (lRight : K.lookup fRight = some ⟨ocRight, odRight, .func (PySem.W.fnOf "_law_right" "_law_right" (defArgs sRight) (defBody sRight) (defScope sRight) .none kVRight dcRight pmRight anRight cdRight ctRight), slRight⟩)
    (cRight : codeIn K cdRight "_law_right" = true)
    (kRight : keepIn K (.ref fRight) = true)
    (aLaw : nsIn K mainGlobals "law" = some (some (.ref fLaw)))
    (lLaw : K.lookup fLaw = some ⟨ocLaw, odLaw, .func (PySem.W.fnOf "law" "law" (defArgs sLaw) (defBody sLaw) (defScope sLaw) .none kVLaw dcLaw pmLaw anLaw cdLaw ctLaw), slLaw⟩)
    (cLaw : codeIn K cdLaw "law" = true)
    (kLaw : keepIn K (.ref fLaw) = true)
    (z_len : nsIn K mainGlobals "len" = some none)
    (z_abs : nsIn K mainGlobals "abs" = some none)
    (z_int : nsIn K mainGlobals "int" = some none)
    (z_range : nsIn K mainGlobals "range" = some none)
    (z_isinstance : nsIn K mainGlobals "isinstance" = some none)
    (z_ValueError : nsIn K mainGlobals "ValueError" = some none)
    (z_repr : nsIn K mainGlobals "repr" = some none)
    (z_enumerate : nsIn K mainGlobals "enumerate" = some none)
    (z_all : nsIn K mainGlobals "all" = some none)
    (z_max : nsIn K mainGlobals "max" = some none)
    (z_min : nsIn K mainGlobals "min" = some none)
    (xAny : ((List.range 15).all fun j => anyB K ([C0, C1, C2, C3, C4, C5, C6, C7, C8, C9, C10, C11, C12, C13, C14].getD j 0)) = true)
    (xField : ((List.range 12).all fun j => fieldB K ([C0, C1, C2, C3, C4, C5, C6, C7, C8, C9, C10, C11, C12, C13, C14].getD j 0)) = true)
    (xBare : ((List.range 3).all fun j => excIn K ([C0, C1, C2, C3, C4, C5, C6, C7, C8, C9, C10, C11, C12, C13, C14].getD (12 + j) 0) veB "ValueError.__new__") = true)
    (xMix : mixB K CF [C0, C1, C2, C3, C4, C5, C6, C7, C8, C9, C10, C11, C12, C13, C14] = true) :
    ∃ fd : FuncData, (∀ (s : Shared) (v : Value), BindsTo s fd ⟨[v], []⟩ [("_law_script", v)]) ∧ ∀ base : Heap, K.In base → base.Ns mainGlobals mg → FnG l.prog w K mg base CX0 5 fa fd ["_law_script"] (spLaw K) := by
  have e := hfa.symm.trans (PySem.W.mg_of X G aLaw)
  cases e
  have gg : ∀ j, j < 15 → mg (xNames.getD j "") = some (.ref ([C0, C1, C2, C3, C4, C5, C6, C7, C8, C9, C10, C11, C12, C13, C14].getD j 0)) := by
    intro j hj
    match j, hj with
    | 0, _ => exact PySem.W.mg_of X G aC0
    | 1, _ => exact PySem.W.mg_of X G aC1
    | 2, _ => exact PySem.W.mg_of X G aC2
    | 3, _ => exact PySem.W.mg_of X G aC3
    | 4, _ => exact PySem.W.mg_of X G aC4
    | 5, _ => exact PySem.W.mg_of X G aC5
    | 6, _ => exact PySem.W.mg_of X G aC6
    | 7, _ => exact PySem.W.mg_of X G aC7
    | 8, _ => exact PySem.W.mg_of X G aC8
    | 9, _ => exact PySem.W.mg_of X G aC9
    | 10, _ => exact PySem.W.mg_of X G aC10
    | 11, _ => exact PySem.W.mg_of X G aC11
    | 12, _ => exact PySem.W.mg_of X G aC12
    | 13, _ => exact PySem.W.mg_of X G aC13
    | 14, _ => exact PySem.W.mg_of X G aC14
  have T : Txt K mg CF [C0, C1, C2, C3, C4, C5, C6, C7, C8, C9, C10, C11, C12, C13, C14] := ⟨PySem.W.mg_of X G aF, gg, xAny, xField, xBare, xMix⟩
  have FI0 := fun_mk (st := sI0) lI0 cI0 kI0
  have FI1 := fun_mk (st := sI1) lI1 cI1 kI1
  have FI2 := fun_mk (st := sI2) lI2 cI2 kI2
  have FI3 := fun_mk (st := sI3) lI3 cI3 kI3
  have FI4 := fun_mk (st := sI4) lI4 cI4 kI4
  have FI5 := fun_mk (st := sI5) lI5 cI5 kI5
  have FI6 := fun_mk (st := sI6) lI6 cI6 kI6
  have FI7 := fun_mk (st := sI7) lI7 cI7 kI7
  have FI8 := fun_mk (st := sI8) lI8 cI8 kI8
  have FI9 := fun_mk (st := sI9) lI9 cI9 kI9
  have FI10 := fun_mk (st := sI10) lI10 cI10 kI10
  have FI11 := fun_mk (st := sI11) lI11 cI11 kI11
  have FHand := fun_mk (st := sHand) lHand cHand kHand
  have FTake := fun_mk (st := sTake) lTake cTake kTake
  have FOf := fun_mk (st := sOf) lOf cOf kOf
  have FOdd := fun_mk (st := sOdd) lOdd cOdd kOdd
  have FFlags := fun_mk (st := sFlags) lFlags cFlags kFlags
  have FMade := fun_mk (st := sMade) lMade cMade kMade
  have FAlone := fun_mk (st := sAlone) lAlone cAlone kAlone
  have FRight := fun_mk (st := sRight) lRight cRight kRight
  have FLaw := fun_mk (st := sLaw) lLaw cLaw kLaw
  have bI0 := FI0.binds (ps := ["self", "value"]) fun _ _ _ _ _ _ us hl => match us, hl with | [_, _], _ => rfl
  have bI1 := FI1.binds (ps := ["self", "value"]) fun _ _ _ _ _ _ us hl => match us, hl with | [_, _], _ => rfl
  have bI2 := FI2.binds (ps := ["self", "value"]) fun _ _ _ _ _ _ us hl => match us, hl with | [_, _], _ => rfl
  have bI3 := FI3.binds (ps := ["self", "value"]) fun _ _ _ _ _ _ us hl => match us, hl with | [_, _], _ => rfl
  have bI4 := FI4.binds (ps := ["self", "value"]) fun _ _ _ _ _ _ us hl => match us, hl with | [_, _], _ => rfl
  have bI5 := FI5.binds (ps := ["self", "value"]) fun _ _ _ _ _ _ us hl => match us, hl with | [_, _], _ => rfl
  have bI6 := FI6.binds (ps := ["self", "value"]) fun _ _ _ _ _ _ us hl => match us, hl with | [_, _], _ => rfl
  have bI7 := FI7.binds (ps := ["self", "value"]) fun _ _ _ _ _ _ us hl => match us, hl with | [_, _], _ => rfl
  have bI8 := FI8.binds (ps := ["self", "value"]) fun _ _ _ _ _ _ us hl => match us, hl with | [_, _], _ => rfl
  have bI9 := FI9.binds (ps := ["self", "value"]) fun _ _ _ _ _ _ us hl => match us, hl with | [_, _], _ => rfl
  have bI10 := FI10.binds (ps := ["self", "value"]) fun _ _ _ _ _ _ us hl => match us, hl with | [_, _], _ => rfl
  have bI11 := FI11.binds (ps := ["self", "value"]) fun _ _ _ _ _ _ us hl => match us, hl with | [_, _], _ => rfl
  have bHand := FHand.binds (ps := ["_law_script", "_law_k"]) fun _ _ _ _ _ _ us hl => match us, hl with | [_, _], _ => rfl
  have bTake := FTake.binds (ps := ["_law_hand_here", "_law_many"]) fun _ _ _ _ _ _ us hl => match us, hl with | [_, _], _ => rfl
  have bOf := FOf.binds (ps := ["_law_hand_here", "_law_some"]) fun _ _ _ _ _ _ us hl => match us, hl with | [_, _], _ => rfl
  have bOdd := FOdd.binds (ps := ["_law_hand_here"]) fun _ _ _ _ _ _ us hl => match us, hl with | [_], _ => rfl
  have bFlags := FFlags.binds (ps := ["_law_error"]) fun _ _ _ _ _ _ us hl => match us, hl with | [_], _ => rfl
  have bMade := FMade.binds (ps := ["_law_thing"]) fun _ _ _ _ _ _ us hl => match us, hl with | [_], _ => rfl
  have bAlone := FAlone.binds (ps := ["_law_error", "_law_at"]) fun _ _ _ _ _ _ us hl => match us, hl with | [_, _], _ => rfl
  have bRight := FRight.binds (ps := ["_law_hand_here"]) fun _ _ _ _ _ _ us hl => match us, hl with | [_], _ => rfl
  refine ⟨PySem.W.fnOf "law" "law" (defArgs sLaw) (defBody sLaw) (defScope sLaw) .none kVLaw dcLaw pmLaw anLaw cdLaw ctLaw, fun s v => .of_eq rfl, fun base _ _ => ?_⟩
  have R : ∀ j, j < 12 → ∃ (g : Addr) (gd : FuncData), Rdy l.prog w K mg base ([C0, C1, C2, C3, C4, C5, C6, C7, C8, C9, C10, C11, C12, C13, C14].getD j 0) g gd := by
    intro j hj
    match j, hj with
    | 0, _ => exact ⟨fI0, _, aI0, tI0, ok_init FI0 scI0 (T.oex (j := 0) (by decide)) (T.val (j := 0) (by decide)) rfl rfl, bI0⟩
    | 1, _ => exact ⟨fI1, _, aI1, tI1, ok_init FI1 scI1 (T.oex (j := 1) (by decide)) (T.val (j := 1) (by decide)) rfl rfl, bI1⟩
    | 2, _ => exact ⟨fI2, _, aI2, tI2, ok_init FI2 scI2 (T.oex (j := 2) (by decide)) (T.val (j := 2) (by decide)) rfl rfl, bI2⟩
    | 3, _ => exact ⟨fI3, _, aI3, tI3, ok_init FI3 scI3 (T.oex (j := 3) (by decide)) (T.val (j := 3) (by decide)) rfl rfl, bI3⟩
    | 4, _ => exact ⟨fI4, _, aI4, tI4, ok_init FI4 scI4 (T.oex (j := 4) (by decide)) (T.val (j := 4) (by decide)) rfl rfl, bI4⟩
    | 5, _ => exact ⟨fI5, _, aI5, tI5, ok_init FI5 scI5 (T.oex (j := 5) (by decide)) (T.val (j := 5) (by decide)) rfl rfl, bI5⟩
    | 6, _ => exact ⟨fI6, _, aI6, tI6, ok_init FI6 scI6 (T.oex (j := 6) (by decide)) (T.val (j := 6) (by decide)) rfl rfl, bI6⟩
    | 7, _ => exact ⟨fI7, _, aI7, tI7, ok_init FI7 scI7 (T.oex (j := 7) (by decide)) (T.val (j := 7) (by decide)) rfl rfl, bI7⟩
    | 8, _ => exact ⟨fI8, _, aI8, tI8, ok_init FI8 scI8 (T.oex (j := 8) (by decide)) (T.val (j := 8) (by decide)) rfl rfl, bI8⟩
    | 9, _ => exact ⟨fI9, _, aI9, tI9, ok_init FI9 scI9 (T.oex (j := 9) (by decide)) (T.val (j := 9) (by decide)) rfl rfl, bI9⟩
    | 10, _ => exact ⟨fI10, _, aI10, tI10, ok_init FI10 scI10 (T.oex (j := 10) (by decide)) (T.val (j := 10) (by decide)) rfl rfl, bI10⟩
    | 11, _ => exact ⟨fI11, _, aI11, tI11, ok_init FI11 scI11 (T.oex (j := 11) (by decide)) (T.val (j := 11) (by decide)) rfl rfl, bI11⟩
  have GHand := ok_hand (P := l.prog) (w := w) (mg := mg) (base := base) FHand (PySem.W.mg_none_of X G z_len) (PySem.W.mg_none_of X G z_abs) (PySem.W.mg_none_of X G z_int)
  have GTake := ok_take (P := l.prog) (w := w) (mg := mg) (base := base) FTake
  have GOf := ok_of FOf GTake (PySem.W.mg_of X G aTake) kTake bTake (PySem.W.mg_none_of X G z_len)
  have GOdd := ok_odd FOdd GOf (PySem.W.mg_of X G aOf) kOf bOf (PySem.W.mg_none_of X G z_range)
  have GFlags := ok_flags (P := l.prog) (w := w) (base := base) FFlags T (PySem.W.mg_none_of X G z_isinstance)
  have GMade := ok_made FMade T R
  have GAlone := ok_alone FAlone T GFlags (PySem.W.mg_of X G aFlags) kFlags bFlags (PySem.W.mg_none_of X G z_isinstance) (PySem.W.mg_none_of X G z_ValueError) (PySem.W.mg_none_of X G z_range)
  have GRight := ok_right FRight T GOdd (PySem.W.mg_of X G aOdd) kOdd bOdd GMade (PySem.W.mg_of X G aMade) kMade bMade GAlone (PySem.W.mg_of X G aAlone) kAlone bAlone (PySem.W.mg_none_of X G z_range) (PySem.W.mg_none_of X G z_repr) (PySem.W.mg_none_of X G z_enumerate) (PySem.W.mg_none_of X G z_all)
  exact ok_law FLaw GHand (PySem.W.mg_of X G aHand) kHand bHand GRight (PySem.W.mg_of X G aRight) kRight bRight (PySem.W.mg_none_of X G z_range) (PySem.W.mg_none_of X G z_all) (PySem.W.mg_none_of X G z_max) (PySem.W.mg_none_of X G z_min) (PySem.W.mg_none_of X G z_len)
end L2.Fu

open PySem PySem.W PyProof.Rows in
set_option maxRecDepth 100000 in
set_option maxHeartbeats 0 in
theorem PySem.Challenge.cw_featureunion_k81_exceptions_of_any_value_holds : PySem.Challenge.rw_featureunion_k81_exceptions_of_any_value.Holds := by
  w_on; o_law; k_head; (case hw => w_witness2)
  k_fill
  refine L2.Fu.endG (l := PySem.Challenge.rw_featureunion_k81_exceptions_of_any_value) (n := 63) (k := 5) (x := "_law_script") (sp := L2.Fu.spLaw) rfl (by decide) rfl ⟨rfl, by decide, by decide⟩ (fun w h Y => PySem.W.kIn_of Y) ?F (fun K H a ns hl _ hS => ⟨a, ns, rfl, hS, hl, fun _ => rfl⟩)
  case F =>
    intro w mg fa h KX G hmg
    refine' L2.Fu.all_mk KX G hmg ?aF ?aC0 ?aC1 ?aC2 ?aC3 ?aC4 ?aC5 ?aC6 ?aC7 ?aC8 ?aC9 ?aC10 ?aC11 ?aC12 ?aC13 ?aC14 ?aI0 ?tI0 ?lI0 ?cI0 ?kI0 ?aI1 ?tI1 ?lI1 ?cI1 ?kI1 ?aI2 ?tI2 ?lI2 ?cI2 ?kI2 ?aI3 ?tI3 ?lI3 ?cI3 ?kI3 ?aI4 ?tI4 ?lI4 ?cI4 ?kI4 ?aI5 ?tI5 ?lI5 ?cI5 ?kI5 ?aI6 ?tI6 ?lI6 ?cI6 ?kI6 ?aI7 ?tI7 ?lI7 ?cI7 ?kI7 ?aI8 ?tI8 ?lI8 ?cI8 ?kI8 ?aI9 ?tI9 ?lI9 ?cI9 ?kI9 ?aI10 ?tI10 ?lI10 ?cI10 ?kI10 ?aI11 ?tI11 ?lI11 ?cI11 ?kI11 ?aHand ?lHand ?cHand ?kHand ?aTake ?lTake ?cTake ?kTake ?aOf ?lOf ?cOf ?kOf ?aOdd ?lOdd ?cOdd ?kOdd ?aFlags ?lFlags ?cFlags ?kFlags ?aMade ?lMade ?cMade ?kMade ?aAlone ?lAlone ?cAlone ?kAlone ?aRight ?lRight ?cRight ?kRight ?aLaw ?lLaw ?cLaw ?kLaw ?z_len ?z_abs ?z_int ?z_range ?z_isinstance ?z_ValueError ?z_repr ?z_enumerate ?z_all ?z_max ?z_min ?xAny ?xField ?xBare ?xMix
    (case aF => k_is)
    (case aC0 => k_is)
    (case aC1 => k_is)
    (case aC2 => k_is)
    (case aC3 => k_is)
    (case aC4 => k_is)
    (case aC5 => k_is)
    (case aC6 => k_is)
    (case aC7 => k_is)
    (case aC8 => k_is)
    (case aC9 => k_is)
    (case aC10 => k_is)
    (case aC11 => k_is)
    (case aC12 => k_is)
    (case aC13 => k_is)
    (case aC14 => k_is)
    (case aI0 => k_is)
    (case tI0 => k_is)
    (case lI0 => k_is)
    (case cI0 => k_is)
    (case kI0 => k_is)
    (case aI1 => k_is)
    (case tI1 => k_is)
    (case lI1 => k_is)
    (case cI1 => k_is)
    (case kI1 => k_is)
    (case aI2 => k_is)
    (case tI2 => k_is)
    (case lI2 => k_is)
    (case cI2 => k_is)
    (case kI2 => k_is)
    (case aI3 => k_is)
    (case tI3 => k_is)
    (case lI3 => k_is)
    (case cI3 => k_is)
    (case kI3 => k_is)
    (case aI4 => k_is)
    (case tI4 => k_is)
    (case lI4 => k_is)
    (case cI4 => k_is)
    (case kI4 => k_is)
    (case aI5 => k_is)
    (case tI5 => k_is)
    (case lI5 => k_is)
    (case cI5 => k_is)
    (case kI5 => k_is)
    (case aI6 => k_is)
    (case tI6 => k_is)
    (case lI6 => k_is)
    (case cI6 => k_is)
    (case kI6 => k_is)
    (case aI7 => k_is)
    (case tI7 => k_is)
    (case lI7 => k_is)
    (case cI7 => k_is)
    (case kI7 => k_is)
    (case aI8 => k_is)
    (case tI8 => k_is)
    (case lI8 => k_is)
    (case cI8 => k_is)
    (case kI8 => k_is)
    (case aI9 => k_is)
    (case tI9 => k_is)
    (case lI9 => k_is)
    (case cI9 => k_is)
    (case kI9 => k_is)
    (case aI10 => k_is)
    (case tI10 => k_is)
    (case lI10 => k_is)
    (case cI10 => k_is)
    (case kI10 => k_is)
    (case aI11 => k_is)
    (case tI11 => k_is)
    (case lI11 => k_is)
    (case cI11 => k_is)
    (case kI11 => k_is)
    (case aHand => k_is)
    (case lHand => k_is)
    (case cHand => k_is)
    (case kHand => k_is)
    (case aTake => k_is)
    (case lTake => k_is)
    (case cTake => k_is)
    (case kTake => k_is)
    (case aOf => k_is)
    (case lOf => k_is)
    (case cOf => k_is)
    (case kOf => k_is)
    (case aOdd => k_is)
    (case lOdd => k_is)
    (case cOdd => k_is)
    (case kOdd => k_is)
    (case aFlags => k_is)
    (case lFlags => k_is)
    (case cFlags => k_is)
    (case kFlags => k_is)
    (case aMade => k_is)
    (case lMade => k_is)
    (case cMade => k_is)
    (case kMade => k_is)
    (case aAlone => k_is)
    (case lAlone => k_is)
    (case cAlone => k_is)
    (case kAlone => k_is)
    (case aRight => k_is)
    (case lRight => k_is)
    (case cRight => k_is)
    (case kRight => k_is)
    (case aLaw => k_is)
    (case lLaw => k_is)
    (case cLaw => k_is)
    (case kLaw => k_is)
    (case z_len => k_is)
    (case z_abs => k_is)
    (case z_int => k_is)
    (case z_range => k_is)
    (case z_isinstance => k_is)
    (case z_ValueError => k_is)
    (case z_repr => k_is)
    (case z_enumerate => k_is)
    (case z_all => k_is)
    (case z_max => k_is)
    (case z_min => k_is)
    (case xAny => kernel_rfl)
    (case xField => kernel_rfl)
    (case xBare => kernel_rfl)
    (case xMix => kernel_rfl)

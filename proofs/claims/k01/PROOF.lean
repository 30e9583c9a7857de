import PyProof.Rows.All
import Wide.All
import OpenK.AllK
import Wide.FinOn
import HandS.ForMost
import HandS.IsInst
import HandS.Walk
import HandS.Evl
import PySem.Challenge.RW_namesone_k01_signs_words_names
set_option Elab.async false
set_option linter.all false
set_option maxRecDepth 100000
set_option maxHeartbeats 4000000
/-! Our own layer over HandS: callees in one structure, promises that hold where no repr runs around, data with dicts and its repr. -/
namespace Nm
open PySem PySem.Spec PyProof.Rows L2
abbrev Fg := PySem.W.Frag
section
variable {X : Cx}
/-- a constant of the module, its token left open -/
theorem pe_gx {x : Str} {v : V} {pos : Pos} (hg : Gl X x) (hm : ∃ u, X.mg x = some u ∧ RelV v u) (hd : (x == ("__debug__" : Str)) = false := by decide) : PE X (.Name x pos) (tC v) :=
  hm.elim fun _ h => pe_glob hg h.1 h.2 hd
end
/-- a def by its name: it keeps its promise, it stands there, it is bound by its parameters -/
structure Cal (P : Program) (w : World) (K : Fg) (mg : Str → Option Value) (base : Heap) (CX : CXT) (k : Nat) (x : Str) (ps : List Str) (sp : Sp) (f : Addr) (fd : FuncData) : Prop where
  ok : FnOk P w K mg base CX k f fd ps sp
  mg : mg x = some (.ref f)
  kp : PySem.W.keepIn K (.ref f) = true
  b : Binds K fd ps []
/-- a promise that is kept wherever no repr runs around -/
structure FnG (P : Program) (w : World) (K : Fg) (mg : Str → Option Value) (base : Heap) (CX : CXT) (k : Nat) (f : Addr) (fd : FuncData) (ps : List Str) (sp : Sp) : Prop where
  many : ∀ vs H Q E, sp vs H Q E → vs.length = ps.length
  go : ∀ (A : Around) (fr : List Env) (s : Shared) (H : Hp) (ar : Args) (us : List Value) (vs : List V) (Q : VK) (E : XK), A.guards = some [] → Room k A → Env0 P w K mg base A fr s H →
    BindsTo s fd ar (ps.zip us) → Vals vs us → sp vs H Q E → codeAny (model P w) A (.call (.ref f) ar) (CR CX fr P w H s Q E) s
section
variable {P : Program} {w : World} {K : Fg} {mg : Str → Option Value} {base : Heap} {CX : CXT} {k : Nat} {f : Addr} {fd : FuncData} {ps : List Str} {sp : Sp}
theorem FnG.of (F : FnOk P w K mg base CX k f fd ps sp) : FnG P w K mg base CX k f fd ps sp :=
  ⟨F.len, fun A fr s H ar us vs Q E _ => F.run A fr s H ar us vs Q E⟩
theorem FnG.up (F : FnG P w K mg base CX k f fd ps sp) {j : Nat} (h : k ≤ j) : FnG P w K mg base CX j f fd ps sp :=
  ⟨F.many, fun A fr s H ar us vs Q E hG hr => F.go A fr s H ar us vs Q E hG (hr.mono h)⟩
end
structure CalG (P : Program) (w : World) (K : Fg) (mg : Str → Option Value) (base : Heap) (CX : CXT) (k : Nat) (x : Str) (ps : List Str) (sp : Sp) (f : Addr) (fd : FuncData) : Prop where
  ok : FnG P w K mg base CX k f fd ps sp
  mg : mg x = some (.ref f)
  kp : PySem.W.keepIn K (.ref f) = true
  b : Binds K fd ps []
section
variable {X : Cx} {CX : CXT} {k : Nat} {f : Addr} {fd : FuncData} {ps : List Str} {sp : Sp} {dvs : List V} {ds : List Value} {E : XK}
theorem goG {pins : List (Addr × Obj)} {σ : L2.St} {H : Hp} {s : Shared} {Q : VK} {us : List Value} {vs : List V} (F : FnG X.prog X.w X.K X.mg X.base CX k f fd ps sp) (hG : X.A.guards = some []) (hr : Room k X.A)
    (hb : Binds X.K fd ps ds) (hd : Vals dvs ds) (hx : Passes CX X E) (I : Inv X pins σ H s) (r : Vals vs us) (h : sp (vs ++ dvs) H Q E) : wpAny (model X.prog X.w) X.A (call (.ref f) us) (EP X pins σ Q) X.xe s := by
  have rr := r.append hd
  have many := F.many _ _ _ _ h
  rw [rr.length] at many
  have go := F.go X.A X.stack s H ⟨us, []⟩ _ _ Q E hG hr I.env0 (hb s us I.kIn many) rr h
  refine wpAny_call (codeAny_mono go ?_)
  rintro (e | (_ | _ | _ | u)) s' q
  · exact hx _ _ _ _ _ _ I q
  all_goals first | exact I.after q | exact (show False from q).elim
theorem pe_callG {x : Str} {p pos : Pos} {e : Expr} {es : List Expr} {t : TA} (F : FnG X.prog X.w X.K X.mg X.base CX k f fd ps sp) (hG : X.A.guards = some []) (hr : Room k X.A) (hg : Gl X x) (hm : X.mg x = some (.ref f))
    (hk : PySem.W.keepIn X.K (.ref f) = true) (hb : Binds X.K fd ps ds) (hd : Vals dvs ds) (hx : Passes CX X E) (ha : PA X (e :: es) t) (hdb : (x == ("__debug__" : Str)) = false := by decide)
    (h1 : starEach (e :: es) X.env = (false, eval e X.env) :: starEach es X.env := by rfl) (h2 : (backTo pos (starEach es X.env)).any (·.1) = false := by rfl) : PE X (.Call (.Name x p) (e :: es) [] pos) (tCall sp dvs E t) :=
  ⟨fun pins s σ H Q I h => wpAny_Call_Name_kw (ld_glob I hg hm (PySem.W.callWith_K (h₀ := X.base) I.ok.mod.kin hk
    (thn (ha.run pos pins s σ H _ I h) fun _ _ q => match q with | ⟨_, _, J, r, q⟩ => ⟨J.kIn, goG F hG hr hb hd hx J r q⟩) h1 h2) hdb)⟩
theorem pe_call0G {x : Str} {p pos : Pos} (F : FnG X.prog X.w X.K X.mg X.base CX k f fd ps sp) (hG : X.A.guards = some []) (hr : Room k X.A) (hg : Gl X x) (hm : X.mg x = some (.ref f))
    (hk : PySem.W.keepIn X.K (.ref f) = true) (hb : Binds X.K fd ps ds) (hd : Vals dvs ds) (hx : Passes CX X E) (hdb : (x == ("__debug__" : Str)) = false := by decide) : PE X (.Call (.Name x p) [] [] pos) (tCall sp dvs E tNil) :=
  ⟨fun pins s σ H Q I h => wpAny_Call_Name_kw (ld_glob I hg hm (PySem.W.callWith_K0 I.kIn hk (goG (us := []) F hG hr hb hd hx I .nil h)) hdb)⟩
end
section
variable {P : Program} {w : World} {K : Fg} {mg : Str → Option Value} {base : Heap} {CX : CXT}
/-- the rule for a def whose body may ask for repr -/
theorem okG {x qual : Str} {st : Stmt} {f : Addr} {fd : FuncData} {N ps : List Str} {k : Nat} {sp : Sp} (F : Fun K x qual st f fd) (S : FnScope N ps (defScope st)) (many : ∀ vs H Q E, sp vs H Q E → vs.length = ps.length)
    (hb : ∀ (cdv : Value) (A : Around) (fr : List Env) (s : Shared) (H : Hp) (vs : List V) (Q : VK) (E : XK), A.guards = some [] → Room k (A.deeper (envOfC qual (defScope st) s.heap.objs.size f cdv)) → sp vs H Q E →
      ∃ t, PSs (cxOf CX P w K mg base N qual (defScope st) f cdv A fr s H E).nox (defBody st) t ∧ t { nx := fun _ H' => Q .non H', rt := Q } (start N vs) H) : FnG P w K mg base CX (k + 1) f fd ps sp := by
  refine ⟨many, fun A fr s H ar us vs Q E hG hr e0 hbi r q => ?_⟩
  obtain ⟨oc, od, kV, doc, pm, an, cdv, ct, osl, rfl, lk, hc⟩ := F.ex
  -- the def's promise at this one call alone
  let sp1 : Sp := fun vs' H' Q' E' => vs' = vs ∧ H' = H ∧ sp vs H Q' E'
  have hl := many _ _ _ _ q
  have KX : K.In s.heap := e0.mod.kin.keeps fun b o e => (e0.bs b o e).1
  have lim : s.heap.NoLimit := e0.mod.nolimit.keeps fun b o e => (e0.bs b o e).1
  have kinds : ∀ y ∈ ps.zip us, (defScope st).names.lookup y.1 = some .local ∨ ((defScope st).names.lookup y.1 = some .cell ∧ ((cellsFrom (s.heap.objs.size + 1) (defScope st).names []).lookup y.1).isSome = true) := by
    rintro ⟨n, v⟩ hy
    exact (S.par n (List.of_mem_zip hy).1).imp id fun q => ⟨q, PySem.W.cellsFrom_some _ _ _ (.inl q)⟩
  refine codeAny_call_function hr.depth (KX _ _ lk) rfl S.co S.gen rfl (PySem.W.codeRec_of KX hc) (hbi _ _ _ _ ?_)
  refine wpAny_newFunctionEnv_cells S.kind kinds fun env he s1 z => ?_
  subst he
  obtain ⟨t, ht, hq⟩ := hb cdv A fr s H vs Q E hG (hr.deeper _) q
  have I := inv_start (CX := CX) (P := P) (w := w) (K := K) (mg := mg) (base := base) (E := E) S hr.hd e0 hl r z
  refine ⟨lim.keeps z.toInCall.keep, codeAny_func (wpAny_mono (ht.nox.run [] s1 _ H _ I hq) ?_ fun _ _ h => h)⟩
  rintro (_ | _ | _ | u) s' h
  · obtain ⟨_, H', J, h⟩ := h
    exact ⟨V.non, H', J.os, J.bare, J.base, J.hok, rfl, h⟩
  · obtain ⟨_, _, _, h⟩ := h
    exact (show False from h).elim
  · obtain ⟨_, _, _, h⟩ := h
    exact (show False from h).elim
  · obtain ⟨v, _, H', J, rv, h⟩ := h
    exact ⟨v, H', J.os, J.bare, J.base, J.hok, rv, h⟩
end

/-! ### the head, for a law whose body may ask for repr -/
theorem head_call {P : Program} {w : World} {K : Fg} {mg mb : Str → Option Value} {k : Nat} {fa a : Addr} {fd : FuncData} {x : Str} {sp : Sp} {s₁ : Shared} {vs : List Value} {ns : List Int}
    (KX : K.In s₁.heap) (hns : s₁.heap.Ns mainGlobals mg) (hb : s₁.heap.Ns builtinsNs mb) (hbb : ∀ x : Str, x ≠ "__name__" → mb x = bootBuiltins x) (hlim : s₁.heap.NoLimit) (hg : s₁.gens = #[])
    (ha : s₁.heap.get? a = some { cls := .type "list", data := .seq vs.toArray }) (hi : IntsAre vs ns) (hl : ns.length ≤ sizeLine) (hr : Room k callerA)
    (F : ∀ base : Heap, K.In base → base.Ns mainGlobals mg → FnG P w K mg base CX0 k fa fd [x] sp) (hbi : ∀ (s : Shared) (u : Value), BindsTo s fd ⟨[u], []⟩ [(x, u)])
    (hsp : ∀ H : Hp, Only H → SqL K H a (ns.map V.int) → sp [.ref a] H (fun v _ => v = .bl true) fun _ _ _ => False) :
    codeAny (model P w) callerA (.call (.ref fa) ⟨[.ref a], []⟩) (fun r s' => r = .ok (.ret (.bool true)) ∧ OldK s₁.heap s'.heap ∧ s'.os = s₁.os ∧ AllBare s'.gens) s₁ := by
  have rv := vals_ints hi
  -- what is tracked: the script alone, if it is no object of the written part
  obtain ⟨H, hO, hS, hA, hK, hok⟩ : ∃ H : Hp, Only H ∧ SqL K H a (ns.map V.int) ∧ (∀ b, H b ≠ none → b = a) ∧ (H a ≠ none → K.lookup a = none) ∧ HOk P w H s₁.heap := by
    cases hk : K.lookup a with
    | some o =>
      have e := KX a o hk
      rw [ha] at e
      injection e with e
      subst e
      exact ⟨fun _ => none, fun _ => .inl rfl, .inr ⟨_, vs.toArray, _, hk, rfl, rfl, rfl, by simpa [hi.length] using hl, by simpa using rv⟩, fun b z => (z rfl).elim, fun z => (z rfl).elim, fun b u z => nomatch z⟩
    | none =>
      let o : Obj := { cls := .type "list", data := .seq vs.toArray }
      have at_ : ∀ b, (upd (fun _ => none) a (.frz o (.lst (ns.map V.int)))) b ≠ none → b = a := fun b z => by
        by_cases h : b = a
        · exact h
        · rw [upd_ne h] at z
          exact (z rfl).elim
      refine ⟨upd (fun _ => none) a (.frz o (.lst (ns.map V.int))), fun b => ?_, .inl (.inr ⟨o, upd_same⟩), at_, fun _ => rfl, fun b u z => ?_⟩
      · by_cases h : b = a
        · subst h
          exact .inr ⟨o, _, upd_same⟩
        · exact .inl (upd_ne h)
      · obtain rfl := at_ b (by rw [z]; simp)
        rw [upd_same] at z
        injection z with z
        subst z
        exact ⟨ha, by simpa using hl, vs, _, rv, ha⟩
  have noA : ∀ {b : Addr} {o : Obj} {es : Array DictEntry} {ep : Nat}, s₁.heap.get? b = some o → o.data = .dict es ep → H b = none := by
    intro b o es ep e d
    cases q : H b with
    | none => rfl
    | some u =>
      obtain rfl := hA b (by rw [q]; simp)
      rw [ha] at e
      injection e with e
      rw [← e] at d
      cases d
  have nsK : ∀ {b : Addr} {m : Str → Option Value}, s₁.heap.Ns b m → (hidT s₁.heap H).Ns b m := fun {b m} ⟨o, es, ep, e, d, r⟩ => ⟨o, es, ep, hidT_get e (noA e d), d, r⟩
  have hKb : K.In (hidT s₁.heap H) := fun b o e => hidT_get (KX b o e) (by
    cases q : H b with
    | none => rfl
    | some u =>
      obtain rfl := hA b (by rw [q]; simp)
      rw [hK (by rw [q]; simp)] at e
      cases e)
  have hM : Mod K mg (hidT s₁.heap H) := by
    obtain ⟨mc, h1, h2⟩ := hlim
    exact ⟨hKb, nsK hns, ⟨mb, nsK hb, hbb⟩, ⟨mc, nsK h1, h2⟩⟩
  have e0 : Env0 P w K mg (hidT s₁.heap H) callerA [] s₁ H :=
    ⟨rfl, hM, fun b o e => of_hidT e, Nat.le_of_eq (hidT_size _ _), trivial, fun b z => absurd (show b ∈ ([] : List Addr) from z) (by simp), hok, .of_eq hg⟩
  have go := (F _ hKb (nsK hns)).go callerA [] s₁ H ⟨[.ref a], []⟩ [.ref a] [.ref a] _ _ rfl hr e0 (hbi s₁ (.ref a)) (.cons rfl .nil) (hsp H hO hS)
  refine codeAny_mono go ?_
  rintro (e | (_ | _ | _ | u)) s' h
  · exact (show False from h).elim
  · exact (show False from h).elim
  · exact (show False from h).elim
  · exact (show False from h).elim
  · obtain ⟨v, H', os, bare, un, hok', r', rfl⟩ := h
    obtain rfl : u = Value.bool true := r'
    refine ⟨rfl, OldK.of_keep fun b o e => ?_, os, bare⟩
    cases q : H b with
    | none => exact un.keep b o e q (fun z => absurd (show b ∈ ([] : List Addr) from z) (by simp)) (by simp)
    | some u =>
      rcases hO b with z | ⟨ob, xs, z⟩
      · rw [q] at z
        cases z
      · have e1 := (hok b _ z).1
        rw [e] at e1
        rw [(hok' b _ (un.frzs b ob _ z)).1, ← e1]
theorem walk_G {l : PySem.W.OpenLaw} {n k : Nat} {q : Program} {loose : List Str} {XP : (Str → Option Value) → Heap → Prop} {YP : World → Heap → Prop} {d : DefRec} {K : Params → Fg} {sp : Fg → Sp} {x : Str}
    (hn : l.most = some n) (hn2 : n ≤ sizeLine) (hdf : d.params.defaults = []) (hr : Room k callerA) (hY : ∀ (w : World) (h : Heap), YP w h → (K w.params).In h)
    (F : ∀ (w : World) (mg : Str → Option Value) (fa : Addr) (h : Heap), (K w.params).In h → h.Ns mainGlobals mg → mg d.name = some (.ref fa) →
      ∃ fd : FuncData, (∀ (s : Shared) (u : Value), BindsTo s fd ⟨[u], []⟩ [(x, u)]) ∧ ∀ base : Heap, (K w.params).In base → base.Ns mainGlobals mg → FnG l.prog w (K w.params) mg base CX0 k fa fd [x] (sp (K w.params)))
    (hsp : ∀ (K : Fg) (H : Hp) (a : Addr) (ns : List Int), ns.length ≤ n → Only H → SqL K H a (ns.map V.int) → sp K [.ref a] H (fun v _ => v = .bl true) fun _ _ _ => False) :
    PySem.W.WalkO q loose XP YP l.row.toRowW d [] (fun f vs => PySem.call f vs) := by
  refine Att.attach_call hn hdf fun w s₀ s₁ mg mb fa o pm cd doc a vs ns G Y ho hd hcd hmg hobj hints hlen hg => ?_
  obtain ⟨fd, hb, hF⟩ := F w mg fa _ (hY w _ Y) G.T.g hmg
  exact head_call (hY w _ Y) G.T.g G.T.b G.T.builtins G.T.nolimit hg hobj hints (Nat.le_trans hlen hn2) hr hF hb fun H hO hS => hsp _ H a ns hlen hO hS

/-! ### data with dicts, and its repr -/
def keyD : Key → PyData
  | .inl i => .int i
  | .inr x => .str x
/-- a written list, new: it does not stand where sys.modules does -/
def tLstS (t : TA) : TE := fun σ H Q => t σ H fun xs H1 => xs.length ≤ sizeLine ∧ ∀ p, H1 p = none → p ≠ sysModules → Q (.ref p) (upd H1 p (.lst xs))
theorem pe_lstS {X : Cx} {es : List Expr} {pos : Pos} {t : TA} (h : PA X es t) : PE X (.List es pos) (tLstS t) := by
  constructor
  intro pins s σ H Q I hq
  apply wpAny_List_spliced
  apply thn (h.run pos pins s σ H _ I hq)
  rintro us s1 ⟨xs, H1, I1, r, z, q⟩
  have fr : H1 s1.heap.objs.size = none := I1.hok.fresh (Nat.le_refl _)
  have new : ObjOk X.prog X.w (upd H1 s1.heap.objs.size (.lst xs)) (s1.heap.push { cls := .type "list", data := .seq us.toArray }) s1.heap.objs.size (.lst xs) := ⟨z, us, 0, r, Heap.get?_push_size _ rfl⟩
  exact ⟨r.length ▸ z, V.ref _, _, I1.laid (t' := s1.toks) (fun _ _ => Heap.get?_push_of_some _) (Nat.le_refl _) new, rfl, q _ fr (Nat.ne_of_gt I1.big)⟩
mutual
inductive Dx (K : Fg) (H : Hp) : V → PyData → Prop
  | non : Dx K H .non .none
  | bl (b : Bool) : Dx K H (.bl b) (.bool b)
  | int (i : Int) : Dx K H (.int i) (.int i)
  | str (x : Str) : Dx K H (.str x) (.str x)
  | lst {a : Addr} {xs : List V} {ds : List PyData} : a ≠ sysModules → SqL K H a xs → DxAll K H xs ds → Dx K H (.ref a) (.list ds)
  | tup {a : Addr} {xs : List V} {ds : List PyData} : SqT K H a xs → DxAll K H xs ds → Dx K H (.ref a) (.tuple ds)
  | dic {a : Addr} {kvs : List (Key × V)} {ds : List PyData} : Rd H a (.dK kvs) → DxAll K H (kvs.map (·.2)) ds → Dx K H (.ref a) (.dict ((kvs.map fun p => keyD p.1).zip ds))
inductive DxAll (K : Fg) (H : Hp) : List V → List PyData → Prop
  | nil : DxAll K H [] []
  | cons {v : V} {vs : List V} {d : PyData} {ds : List PyData} : Dx K H v d → DxAll K H vs ds → DxAll K H (v :: vs) (d :: ds)
end
theorem DxAll.len {K : Fg} {H : Hp} : ∀ {vs : List V} {ds : List PyData}, DxAll K H vs ds → vs.length = ds.length
  | _, _, .nil => rfl
  | _, _, .cons _ t => congrArg (· + 1) t.len
theorem zip_fst {α β : Type} : ∀ {xs : List α} {ys : List β}, xs.length = ys.length → (xs.zip ys).map (·.1) = xs
  | [], [], _ => rfl
  | x :: xs, y :: ys, h => congrArg (x :: ·) (zip_fst (xs := xs) (ys := ys) (Nat.succ.inj h))
  | [], _ :: _, h => nomatch h
  | _ :: _, [], h => nomatch h
theorem zip_snd {α β : Type} : ∀ {xs : List α} {ys : List β}, xs.length = ys.length → (xs.zip ys).map (·.2) = ys
  | [], [], _ => rfl
  | x :: xs, y :: ys, h => congrArg (y :: ·) (zip_snd (xs := xs) (ys := ys) (Nat.succ.inj h))
  | [], _ :: _, h => nomatch h
  | _ :: _, [], h => nomatch h
section
variable {X : Cx} {pins : List (Addr × Obj)} {σ : L2.St} {H : Hp} {s : Shared}
theorem keys_read {h : Heap} : ∀ {es : List DictEntry} {vs : List (Key × Value)}, PySem.Pairs (mixKind X.prog X.w) es vs → ReadsAll h (es.map (·.key)) (vs.map fun p => keyD p.1) []
  | _, _, .nil => .nil
  | e :: es, (k, v) :: vs, .cons h1 _ t => by
    refine ReadsAll.cons (as := []) (bs := []) ?_ (keys_read t)
    rcases keyIs_shape (show keyIs k e.key = true from h1) with ⟨i, tk, rfl, q⟩ | ⟨x, tk, rfl, q⟩
    · show Reads h e.key (.int i) []
      rw [q]
      exact Reads.int i tk
    · show Reads h e.key (.str x) []
      rw [q]
      exact Reads.str x tk
theorem vals_of_pairs {P : Program} {w : World} : ∀ {es : List DictEntry} {vs : List (Key × Value)}, PySem.Pairs (mixKind P w) es vs → es.map (·.val) = vs.map (·.2)
  | _, _, .nil => rfl
  | e :: es, (k, v) :: vs, .cons _ h2 t => by
    rw [List.map_cons, List.map_cons, vals_of_pairs t, h2]
theorem kv_fst : ∀ {kvs : List (Key × V)} {vs : List (Key × Value)}, KV kvs vs → (kvs.map fun p => keyD p.1) = vs.map fun p => keyD p.1
  | _, _, .nil => rfl
  | _, _, .cons h t => by
    rw [List.map_cons, List.map_cons, kv_fst t, h.1]
theorem kv_snd : ∀ {kvs : List (Key × V)} {vs : List (Key × Value)}, KV kvs vs → Vals (kvs.map (·.2)) (vs.map (·.2))
  | _, _, .nil => .nil
  | _, _, .cons h t => .cons h.2 (kv_snd t)
mutual
theorem Dx.reads (I : Inv X pins σ H s) : ∀ (d : PyData) (v : V) (u : Value), Dx X.K H v d → RelV v u → ∃ as, Reads s.heap u d as ∧ sysModules ∉ as
  | .none, _, _, h, r => by
    cases h
    cases r
    exact ⟨_, Reads.none, by simp⟩
  | .bool b, _, _, h, r => by
    cases h
    cases r
    exact ⟨_, Reads.bool b, by simp⟩
  | .int i, _, _, h, r => by
    cases h
    obtain ⟨t, rfl⟩ := r
    exact ⟨_, Reads.int i t, by simp⟩
  | .str x, _, _, h, r => by
    cases h
    obtain ⟨t, rfl⟩ := r
    exact ⟨_, Reads.str x t, by simp⟩
  | .list ds, _, _, h, r => by
    cases h with
    | lst ne hs ha =>
      cases r
      obtain ⟨its, rv, ⟨o, n, ho, hc, _, hd⟩, _⟩ := I.list hs
      obtain ⟨as, hr, hn⟩ := Dx.readsAll I ds _ its ha rv
      exact ⟨_, Reads.list ho hc hd hr, fun z => (List.mem_cons.mp z).elim (fun e => ne e.symm) hn⟩
  | .tuple ds, _, _, h, r => by
    cases h with
    | tup hs ha =>
      cases r
      obtain ⟨its, rv, ⟨o, ho, hc, n, hd⟩, _⟩ := I.tuple hs
      obtain ⟨as, hr, hn⟩ := Dx.readsAll I ds _ its ha rv
      exact ⟨_, Reads.tuple ho hc hd hr, hn⟩
  | .dict ps, v, _, h, r => by
    generalize e : PyData.dict ps = d at h
    cases h with
    | dic hs ha =>
      rename_i a kvs ds
      injection e with e
      cases r
      obtain ⟨z, sm, vs, rel, o, es, ep, ho, hx, hd, _, hp, _⟩ := hs.ok I.hok
      have el : (kvs.map fun p => keyD p.1).length = ds.length := by
        rw [List.length_map, ← ha.len, List.length_map]
      have e2 : ps.map (·.2) = ds := by rw [e, zip_snd el]
      have ha' : DxAll X.K H (kvs.map (·.2)) (ps.map (·.2)) := by rw [e2]; exact ha
      obtain ⟨as, hr, hn⟩ := Dx.readsKv I ps _ _ ha' (kv_snd rel)
      subst e
      refine ⟨_, Reads.dict (as := []) (bs := as) ho hx.1 hd ?_ ?_, ?_⟩
      · rw [zip_fst el, kv_fst rel]
        exact keys_read hp
      · rw [vals_of_pairs hp]
        exact hr
      · intro q
        rcases List.mem_cons.mp q with q | q
        · subst q
          exact absurd sm (by simp)
        · exact hn (by simpa using q)
    | _ => nomatch e
theorem Dx.readsKv (I : Inv X pins σ H s) : ∀ (ps : List (PyData × PyData)) (vs : List V) (us : List Value), DxAll X.K H vs (ps.map (·.2)) → Vals vs us → ∃ as, ReadsAll s.heap us (ps.map (·.2)) as ∧ sysModules ∉ as
  | [], _, _, h, r => by
    cases h
    cases r
    exact ⟨_, ReadsAll.nil, by simp⟩
  | (k, d) :: ps, vs, us, h, r => by
    generalize e : ((k, d) :: ps).map (·.2) = l at h
    cases h with
    | nil => nomatch e
    | cons h1 h2 =>
      injection e with e1 e2
      subst e1
      subst e2
      cases r with
      | cons r1 r2 =>
        obtain ⟨as, q1, n1⟩ := Dx.reads I d _ _ h1 r1
        obtain ⟨bs, q2, n2⟩ := Dx.readsKv I ps _ _ h2 r2
        exact ⟨_, ReadsAll.cons q1 q2, fun z => (List.mem_append.mp z).elim n1 n2⟩
theorem Dx.readsAll (I : Inv X pins σ H s) : ∀ (ds : List PyData) (vs : List V) (us : List Value), DxAll X.K H vs ds → Vals vs us → ∃ as, ReadsAll s.heap us ds as ∧ sysModules ∉ as
  | [], _, _, h, r => by
    cases h
    cases r
    exact ⟨_, ReadsAll.nil, by simp⟩
  | d :: ds, _, _, h, r => by
    cases h with
    | cons h1 h2 =>
      cases r with
      | cons r1 r2 =>
        obtain ⟨as, q1, n1⟩ := Dx.reads I d _ _ h1 r1
        obtain ⟨bs, q2, n2⟩ := Dx.readsAll I ds _ _ h2 r2
        exact ⟨_, ReadsAll.cons q1 q2, fun z => (List.mem_append.mp z).elim n1 n2⟩
end
end
/-- it may be shown: small enough, its ints short -/
structure Fit (d : PyData) : Prop where
  sh : d.showable = true
  lv : d.leavesShort 40 = true
  bk : d.bulk ≤ 300000
  dp : d.depth ≤ 30
theorem Fit.len {d : PyData} (h : Fit d) : d.shown.length ≤ sizeLine := by
  have h1 := PyData.shown_le_bulk 40 (by decide) d h.lv
  have h2 := h.bk
  have h3 : sizeLine = 16777216 := rfl
  omega
def rRepr (K : Fg) : List V → Hp → VK → Prop := fun xs H Q => ∃ x d, xs = [x] ∧ Dx K H x d ∧ Fit d ∧ Q (.str d.shown) H
theorem call_repr {X : Cx} (hG : X.A.guards = some []) (hu : X.A.units + 64 < cLine) : CallR X (.builtin "repr") (rRepr X.K) := by
  rintro pins s σ H xs us Q I r ⟨x, d, rfl, hd, hf, q⟩
  cases r with
  | cons rx r' =>
    cases r'
    obtain ⟨as, hr, hn⟩ := Dx.reads I d _ _ hd rx
    have sz := hf.len
    have out : ∀ (h' : Heap) (u tk : Tok), (∀ b o, s.heap.get? b = some o → h'.get? b = some o) → EP X pins σ Q (.str d.shown u) { s with heap := h', toks := tk } :=
      fun h' u tk k => ⟨.str d.shown, H, I.kept (t' := tk) k, ⟨u, rfl⟩, q⟩
    have out0 : EP X pins σ Q (.str d.shown s.toks) { s with toks := s.toks + 1 } := ⟨.str d.shown, H, I.tok _, ⟨_, rfl⟩, q⟩
    have dp := hf.dp
    cases hd with
    | non =>
      cases rx
      exact PySem.P.repr_of_none (by rw [show PyData.shown .none = ("None" : Str) by simp only [PyData.shown]] at out0; exact out0)
    | bl b =>
      cases rx
      exact PySem.P.repr_of_bool (by rw [show PyData.shown (.bool b) = (if b then "True" else "False" : Str) by simp only [PyData.shown]] at out0; exact out0)
    | int i =>
      obtain ⟨t, rfl⟩ := rx
      have sh : i.natAbs.log2 < 1920 := by simpa only [PyData.showable, decide_eq_true_eq] using hf.sh
      exact PySem.P.repr_of_int sh (by rw [show PyData.shown (.int i) = ((toString i : String) : Str) by simp only [PyData.shown]] at out0; exact out0)
    | str z =>
      obtain ⟨t, rfl⟩ := rx
      have e : PyData.shown (.str z) = reprText z := by simp only [PyData.shown]
      rw [e] at out0 sz
      exact PySem.P.repr_of_str out0 sz
    | lst => cases rx; exact repr_of_reads' hr hf.sh (fun _ => hn) hG (by omega) (fun _ _ e => e) out sz
    | tup => cases rx; exact repr_of_reads' hr hf.sh (fun _ => hn) hG (by omega) (fun _ _ e => e) out sz
    | dic => cases rx; exact repr_of_reads' hr hf.sh (fun _ => hn) hG (by omega) (fun _ _ e => e) out sz
/-! ### comprehensions whose elements change nothing -/
/-- what the reading of a comprehension asks once its new list stands at D -/
abbrev LcB (J : It) (g : TG) (tt : TT) (te : TE) (own : List Nat) (σ : L2.St) (H1 : Hp) (D : Addr) (Qd : Hp → Prop) : Prop :=
  ∃ U : Nat → Nat → Hp → Prop, (∃ k, U 0 k (upd H1 D (.lst []))) ∧ ∀ j k G, U j k G → (J.stop j G ∧ Qd G) ∨
    (J.go j G ∧ ∃ Z : Hp → Prop, (∀ G', Z G' → ∃ k', k' < k ∧ U (j + 1) k' G') ∧ ∀ y G', J.yld j G y G' → g y (wipe σ own) G' fun σ' G2 => wipe σ' own = wipe σ own ∧
      tt σ' G2 fun c G3 => if c = true then te σ' G3 fun r G4 => ∃ got, G4 D = some (.lst got) ∧ got.length < sizeLine ∧ Z (upd G4 D (.lst (got ++ [r]))) else Z G3)
theorem small_line {n : Nat} (h : n ≤ 1000000) : n < sizeLine := Nat.lt_of_le_of_lt h (by decide)
/-- over a text, each element made of its sign alone -/
theorem lc_str {z : Str} {σ : L2.St} {H : Hp} {v : Nat} {te : TE} {D : Addr} {Qd : Hp → Prop} (f : Nat → V) (hz : z.length ≤ 100000)
    (hte : ∀ (c : Nat) (G : Hp) (R : VK), c ∈ z.cps.toList → R (f c) G → te ((wipe σ [v]).set v (some (.str ⟨#[c]⟩))) G R) (h : Qd (upd H D (.lst (z.cps.toList.map f)))) :
    LcB (Its z) (gName v) tYes te [v] σ H D Qd := by
  refine lc_it (walk_str (z := z)) (fun i G => G = upd H D (.lst ((z.cps.toList.take i).map f))) rfl (fun _ _ _ _ => trivial) ?_ ?_
  · rintro i x H1 H2 hi rfl ⟨rfl, c, hc, rfl⟩
    have hc' : z.cps.toList[i]? = some c := by rw [Array.getElem?_toList]; exact hc
    have hm : c ∈ z.cps.toList := List.mem_of_getElem? hc'
    refine ⟨?_, ?_⟩
    · show wipe ((wipe σ [v]).set v _) [v] = _
      simp [wipe]
    · refine hte c _ _ hm ⟨_, upd_same, ?_, ?_⟩
      · rw [List.length_map, List.length_take]
        have : z.cps.toList.length = z.length := by simp [Str.length]
        exact small_line (by omega)
      · rw [upd_upd, List.take_add_one, hc', List.map_append]
        rfl
  · rintro H' rfl
    have e : z.cps.toList.take z.cps.size = z.cps.toList := List.take_of_length_le (by simp)
    rw [e]
    exact h
/-- over range(n), the heap turned by each element: Pv by what is made so far -/
theorem lc_rng {n : Nat} {σ : L2.St} {H : Hp} {v : Nat} {te : TE} {D : Addr} {Qd : Hp → Prop} (Pv : Nat → List V → Hp → Prop) (hn : n ≤ 100000) (h0 : Pv 0 [] (upd H D (.lst [])))
    (hte : ∀ (i : Nat) (xs : List V) (G : Hp) (R : VK), i < n → Pv i xs G → xs.length = i → G D = some (.lst xs) →
      (∀ y G', G' D = some (.lst xs) → Pv (i + 1) (xs ++ [y]) (upd G' D (.lst (xs ++ [y]))) → R y G') → te ((wipe σ [v]).set v (some (.int (0 + (i : Nat))))) G R)
    (h : ∀ xs G, xs.length = n → G D = some (.lst xs) → Pv n xs G → Qd G) :
    LcB (Itr 0 n) (gName v) tYes te [v] σ H D Qd := by
  refine lc_it (walk_range (lo := 0) (n := n)) (fun i G => ∃ xs : List V, xs.length = i ∧ G D = some (.lst xs) ∧ Pv i xs G) ⟨[], rfl, upd_same, h0⟩ (fun _ _ _ _ => trivial) ?_ ?_
  · rintro i x H1 H2 hi ⟨xs, hl, hD, hp⟩ ⟨rfl, rfl⟩
    refine ⟨?_, ?_⟩
    · show wipe ((wipe σ [v]).set v _) [v] = _
      simp [wipe]
    · refine hte i xs _ _ hi hp hl hD fun y G' hD' hp' => ⟨xs, hD', small_line (by omega), xs ++ [y], ?_, upd_same, hp'⟩
      rw [List.length_append, hl]
      rfl
  · rintro G ⟨xs, hl, hD, hp⟩
    exact h xs G hl hD hp
/-- data that is no text -/
inductive Oth (H : Hp) : V → Prop where
  | non : Oth H .non
  | bl (b : Bool) : Oth H (.bl b)
  | int (i : Int) : Oth H (.int i)
  | lst {a : Addr} {xs : List V} (e : H a = some (.lst xs)) : Oth H (.ref a)
  | tup {a : Addr} {xs : List V} (e : H a = some (.tup xs)) : Oth H (.ref a)
  | dic {a : Addr} {kvs : List (Key × V)} (e : H a = some (.dK kvs)) : Oth H (.ref a)
theorem Oth.same {H H' : Hp} {x : V} (h : Oth H x) (s : Same H H') : Oth H' x := by
  cases h with
  | non => exact .non
  | bl b => exact .bl b
  | int i => exact .int i
  | lst e => exact .lst (s _ _ e)
  | tup e => exact .tup (s _ _ e)
  | dic e => exact .dic (s _ _ e)
theorem Oth.ty {K : Fg} {H : Hp} {x : V} (h : Oth H x) : ∃ t, TyX K H x t ∧ PySem.W.kitOne K t (.type "str") = some false := by
  cases h with
  | non => exact ⟨_, .base .non, kit_ty (by decide +kernel)⟩
  | bl b => exact ⟨_, .base (.bl b), kit_ty (by decide +kernel)⟩
  | int i => exact ⟨_, .base (.int i), kit_ty (by decide +kernel)⟩
  | lst e => exact ⟨_, .base (.lst e), kit_ty (by decide +kernel)⟩
  | tup e => exact ⟨_, .base (.tup e), kit_ty (by decide +kernel)⟩
  | dic e => exact ⟨_, .base (.dK e), kit_ty (by decide +kernel)⟩
theorem str_ty {K : Fg} {H : Hp} (z : Str) : ∃ t, TyX K H (.str z) t ∧ PySem.W.kitOne K t (.type "str") = some true := ⟨_, .base (.str z), kit_ty (by decide +kernel)⟩
theorem same_new {H : Hp} {p : Addr} {o : HO} (h : H p = none) : Same H (upd H p o) := fun b x e => (upd_ne (ne_of_none e h)).trans e

/-! ### evaluations: more of them -/
section
open Evl
variable {K : Fg} {σ : L2.St} {H H' : Hp} {ta tb tc te : TE} {t u : TT} {x y z v : V}
/-- a new list that does not stand where sys.modules does -/
def EvM (te : TE) (σ : L2.St) (H : Hp) (xs : List V) : Prop := ∀ H1, Ex H H1 → ∀ Q : VK, (∀ p H2, H1 p = none → p ≠ sysModules → Ex H1 H2 → H2 p = some (.lst xs) → Q (.ref p) H2) → te σ H1 Q
theorem EvM.l {xs : List V} (h : EvM te σ H xs) : EvL te σ H xs := fun H1 e Q q => h H1 e Q fun p H2 a _ b c => q p H2 a b c
theorem em_lst {ta : TA} {vs : List V} (h : EvA ta σ H vs) (hl : vs.length ≤ 100000) : EvM (tLstS ta) σ H vs := fun H1 e _ q =>
  h H1 e _ fun H2 e2 => ⟨sz_of hl, fun p hp ne => q p _ (fresh_back e2 hp) ne (e2.trans (Ex.new hp)) upd_same⟩
theorem ev_chain {a b c : Int} {p q : Int → Int → Bool} (ha : Ev ta σ H (.int a)) (hb : Ev tb σ H (.int b)) (hc : Ev tc σ H (.int c)) :
    Ev (tChain (rI0 fun i j => .bl (p i j)) (rI0 fun i j => .bl (q i j)) ta tb tc) σ H (.bl (p a b && q b c)) := fun H1 e Q k =>
  ha H1 e _ fun H2 e2 => hb H2 (e.trans e2) _ fun H3 e3 => ⟨a, b, rfl, rfl, p a b, rfl, by
    have k' := fun G (g : Ex H3 G) => k G ((e2.trans e3).trans g)
    cases h : p a b with
    | true =>
      rw [h] at k'
      exact iteT (hc H3 ((e.trans e2).trans e3) _ fun H4 e4 => ⟨b, c, rfl, rfl, k' H4 e4⟩)
    | false =>
      rw [h] at k'
      exact iteF (k' H3 (Ex.refl _))⟩
theorem ev_isiS {n : String} {b : Bool} {z : Str} (ha : Ev ta σ H (.str z)) (hk : PySem.W.kitOne K (.type "str") (.type n) = some b) : Ev (tCB (rIsi K) (tCons ta (tCons (tC (.ty n)) tNil))) σ H (.bl b) := fun H1 e Q q =>
  ha H1 e _ fun H2 e2 => ⟨_, .ty n, _, _, b, rfl, .ty n, .base (.str z), hk, q H2 e2⟩
theorem ev_isiO (ha : Ev ta σ H x) (ho : Oth H x) : Ev (tCB (rIsi K) (tCons ta (tCons (tC (.ty "str")) tNil))) σ H (.bl false) := fun H1 e Q q =>
  ha H1 e _ fun H2 e2 => by
    obtain ⟨t, ty, kt⟩ := (ho.same (H' := H2) (e.trans e2)).ty (K := K)
    exact ⟨x, .ty "str", t, _, false, rfl, .ty "str", ty, kt, q H2 e2⟩
theorem ev_lenS {z : Str} (ha : Ev ta σ H (.str z)) (hz : z.length ≤ 100000) : Ev (tCB (fun xs H Q => ∃ a : Str, xs = [.str a] ∧ a.length ≤ sizeLine ∧ Q (.int a.length) H) (tCons ta tNil)) σ H (.int (z.length : Int)) := fun H1 e Q q =>
  ha H1 e _ fun H2 e2 => ⟨z, rfl, sz_of hz, q H2 e2⟩
theorem rv_inS {c : Nat} {z : Str} : RV (fun x y H Q => ∃ (c : Nat) (z : Str), x = .str ⟨#[c]⟩ ∧ y = .str z ∧ Q (.bl (decide (c ∈ z.cps.toList))) H) (.str ⟨#[c]⟩) (.str z) H (.bl (decide (c ∈ z.cps.toList))) :=
  fun H1 _ _ q => ⟨c, z, rfl, rfl, q H1 (Ex.refl H1)⟩
/-- a comprehension over a text: which signs give, and what -/
theorem el_lcS {z : Str} {j : Nat} {vs : List Nat} (f : Nat → Bool) (g : Nat → V) (h : Ev te σ H (.str z)) (hz : z.length ≤ 40000) (hw : ∀ x, wipe ((wipe σ vs).set j (some x)) vs = wipe σ vs)
    (ht : ∀ (c : Nat) H1, Ex H H1 → c ∈ z.cps.toList → EvT t ((wipe σ vs).set j (some (.str ⟨#[c]⟩))) H1 (f c)) (he : ∀ (c : Nat) H1, Ex H H1 → c ∈ z.cps.toList → f c = true → Ev ta ((wipe σ vs).set j (some (.str ⟨#[c]⟩))) H1 (g c)) :
    EvL (tLc (iStr te) (gName j) t ta vs) σ H ((z.cps.toList.filter f).map g) := fun H0 e Q q => h H0 e _ fun H1 e1 => ⟨z, rfl, fun D hD =>
  lc_it (walk_str (z := z)) (fun i G => Ex H1 G ∧ G D = some (.lst (((z.cps.toList.take i).filter f).map g))) ⟨Ex.new hD, upd_same⟩ (fun _ _ _ _ => trivial) (by
    rintro i x G1 G2 hi ⟨eG, hG⟩ ⟨rfl, c, hc, rfl⟩
    have hc' : z.cps.toList[i]? = some c := by rw [Array.getElem?_toList]; exact hc
    have hm : c ∈ z.cps.toList := List.mem_of_getElem? hc'
    refine ⟨hw _, ht c _ (e.trans e1) hm G2 eG _ fun G3 e3 => ?_⟩
    cases hf : f c with
    | true =>
      refine iteT (he c _ (e.trans e1) hm hf G3 (eG.trans e3) _ fun G4 e4 => ⟨_, e4 D _ (e3 D _ hG), ?_, Ex.mut ((eG.trans e3).trans e4) hD, ?_⟩)
      · have h1 := List.length_filter_le f (z.cps.toList.take i)
        rw [List.length_take] at h1
        rw [List.length_map]
        have h2 : z.cps.toList.length = z.length := by simp [Str.length]
        exact sz_lt (by omega)
      · rw [upd_same, List.take_add_one, hc', List.filter_append, List.map_append]
        simp [hf]
    | false =>
      refine iteF ⟨eG.trans e3, ?_⟩
      rw [e3 D _ hG, List.take_add_one, hc', List.filter_append]
      simp [hf]) (by
    rintro G ⟨eG, hG⟩
    have e9 : z.cps.toList.take z.cps.size = z.cps.toList := List.take_of_length_le (by simp)
    rw [e9] at hG
    exact q D G (fresh_back e1 hD) (e1.trans eG) hG)⟩
theorem et_yes : EvT tYes σ H true := fun H1 _ _ q => q H1 (Ex.refl H1)
theorem ev_all {bs : List Bool} (h : EvL te σ H (bs.map V.bl)) : Ev (tCB (rAll K) (tCons te tNil)) σ H (.bl (bs.all id)) := fun H1 e Q q =>
  h H1 e _ fun p H2 _ e2 h2 => ⟨p, bs, rfl, sq_of h2, q H2 e2⟩
theorem ev_any {bs : List Bool} (h : EvL te σ H (bs.map V.bl)) : Ev (tCB (rAny K) (tCons te tNil)) σ H (.bl (bs.any id)) := fun H1 e Q q =>
  h H1 e _ fun p H2 _ e2 h2 => ⟨p, bs, rfl, sq_of h2, q H2 e2⟩
/-- all(p(c) for every sign c) -/
theorem ev_allS {z : Str} {j : Nat} {vs : List Nat} (f : Nat → Bool) (h : Ev te σ H (.str z)) (hz : z.length ≤ 40000) (hw : ∀ x, wipe ((wipe σ vs).set j (some x)) vs = wipe σ vs)
    (he : ∀ (c : Nat) H1, Ex H H1 → c ∈ z.cps.toList → Ev ta ((wipe σ vs).set j (some (.str ⟨#[c]⟩))) H1 (.bl (f c))) :
    Ev (tCB (rAll K) (tCons (tLc (iStr te) (gName j) tYes ta vs) tNil)) σ H (.bl (z.cps.toList.all f)) := by
  have h1 := el_lcS (t := tYes) (fun _ => true) (fun c => .bl (f c)) h hz hw (fun _ _ _ _ => et_yes) fun c H1 e m _ => he c H1 e m
  rw [List.filter_eq_self.mpr fun _ _ => rfl, show (z.cps.toList.map fun c => V.bl (f c)) = (z.cps.toList.map f).map V.bl by rw [List.map_map]; rfl] at h1
  have h2 := ev_all (K := K) h1
  rw [List.all_map] at h2
  exact h2
theorem Dx.same {d : PyData} (e : Ex H H') : Dx K H v d → Dx K H' v d := by
  intro h
  induction h using Dx.rec (motive_2 := fun vs ds _ => DxAll K H' vs ds) with
  | non => exact .non
  | bl b => exact .bl b
  | int i => exact .int i
  | str x => exact .str x
  | lst ne hs _ ih => exact .lst ne (ex_l e hs) ih
  | tup hs _ ih => exact .tup (ex_t e hs) ih
  | dic hs _ ih => exact .dic (ex_rd e hs) ih
  | nil => exact .nil
  | cons _ _ h1 h2 => exact .cons h1 h2
theorem DxAll.same {vs : List V} {ds : List PyData} (e : Ex H H') : DxAll K H vs ds → DxAll K H' vs ds
  | .nil => .nil
  | .cons a b => .cons (a.same e) (b.same e)
theorem ev_repr {d : PyData} (h : Ev te σ H v) (hd : Dx K H v d) (hf : Fit d) : Ev (tCB (rRepr K) (tCons te tNil)) σ H (.str d.shown) := fun H1 e Q q =>
  h H1 e _ fun H2 e2 => ⟨v, d, rfl, hd.same (e.trans e2), hf, q H2 e2⟩
/-- repr of a written list -/
theorem ev_reprL {xs : List V} {ds : List PyData} (h : EvM te σ H xs) (hd : DxAll K H xs ds) (hf : Fit (.list ds)) : Ev (tCB (rRepr K) (tCons te tNil)) σ H (.str (PyData.list ds).shown) := fun H1 e Q q =>
  h H1 e _ fun p H2 _ ne e2 hp => ⟨.ref p, _, rfl, .lst ne (sq_of hp) (hd.same (e.trans e2)), hf, q H2 e2⟩
end
section
open Evl
variable {σ : L2.St} {H : Hp} {ta tb : TE}
theorem dI {a b : Int} : decide (V.int a = V.int b) = decide (a = b) := decide_eq_decide.mpr ⟨V.int.inj, congrArg _⟩
theorem dS {a b : Str} : decide (V.str a = V.str b) = decide (a = b) := decide_eq_decide.mpr ⟨V.str.inj, congrArg _⟩
theorem ev_eqI {a b : Int} (ha : Ev ta σ H (.int a)) (hb : Ev tb σ H (.int b)) : Ev (tOp rEq ta tb) σ H (.bl (decide (a = b))) := ev_is (ev_op ha hb (rv_eq rfl)) (by rw [dI])
theorem ev_neI {a b : Int} (ha : Ev ta σ H (.int a)) (hb : Ev tb σ H (.int b)) : Ev (tOp rNe ta tb) σ H (.bl (!decide (a = b))) := ev_is (ev_op ha hb (rv_ne rfl)) (by rw [dI])
theorem ev_eqS {a b : Str} (ha : Ev ta σ H (.str a)) (hb : Ev tb σ H (.str b)) : Ev (tOp rEq ta tb) σ H (.bl (decide (a = b))) := ev_is (ev_op ha hb (rv_eq rfl)) (by rw [dS])
theorem ev_neS {a b : Str} (ha : Ev ta σ H (.str a)) (hb : Ev tb σ H (.str b)) : Ev (tOp rNe ta tb) σ H (.bl (!decide (a = b))) := ev_is (ev_op ha hb (rv_ne rfl)) (by rw [dS])
end
theorem fit_bools (bs : List Bool) (h : bs.length ≤ 1000) : Fit (.list (bs.map PyData.bool)) := by
  have h1 : PyData.showableAll (bs.map PyData.bool) = true := by
    clear h
    induction bs with
    | nil => rfl
    | cons b r ih => simp [PyData.showableAll, PyData.showable, ih]
  have h2 : PyData.leavesShortAll 40 (bs.map PyData.bool) = true := by
    clear h h1
    induction bs with
    | nil => rfl
    | cons b r ih => simp [PyData.leavesShortAll, PyData.leavesShort, ih]
  have h3 : PyData.bulkAll (bs.map PyData.bool) = bs.length := by
    clear h h1 h2
    induction bs with
    | nil => rfl
    | cons b r ih => simp [PyData.bulkAll, PyData.bulk, ih]; omega
  have h4 : PyData.depthAll (bs.map PyData.bool) = 0 := by
    clear h h1 h2 h3
    induction bs with
    | nil => rfl
    | cons b r ih => simp [PyData.depthAll, PyData.depth, ih]
  exact ⟨by simpa [PyData.showable] using h1, by simpa [PyData.leavesShort] using h2, by simp only [PyData.bulk, h3]; omega, by simp only [PyData.depth, h4]; omega⟩
theorem dx_bools {K : Fg} {H : Hp} : ∀ bs : List Bool, DxAll K H (bs.map V.bl) (bs.map PyData.bool)
  | [] => .nil
  | b :: r => .cons (.bl b) (dx_bools r)

section
open Evl
variable {K : Fg} {σ : L2.St} {H H' : Hp} {te : TE} {D : Ends} {tz : TS}
theorem s_asgM {i : Nat} {xs : List V} (h : EvM te σ H xs) (k : ∀ p H1, H p = none → p ≠ sysModules → Ex H H1 → H1 p = some (.lst xs) → D.nx (σ.set i (some (.ref p))) H1) : tAsg te (gName i) D σ H :=
  h H (Ex.refl H) _ fun p H1 hp ne e h1 => k p H1 hp ne e h1
theorem q_asgM {i : Nat} {xs : List V} (h : EvM te σ H xs) (k : ∀ p H1, H p = none → p ≠ sysModules → Ex H H1 → H1 p = some (.lst xs) → tz D (σ.set i (some (.ref p))) H1) : tSeq (tAsg te (gName i)) tz D σ H :=
  s_asgM (D := { D with nx := tz D }) h k
end
/-! ### a text, or another thing -/
inductive TStr (H : Hp) : V → Bool → Prop where
  | s (z : Str) (hz : z.length ≤ 1000) : TStr H (.str z) true
  | o {x : V} (h : Oth H x) : TStr H x false
def zof : V → Str
  | .str z => z
  | _ => ⟨#[]⟩
theorem TStr.same {H H' : Hp} {x : V} {b : Bool} (h : TStr H x b) (s : Same H H') : TStr H' x b := by
  cases h with
  | s z hz => exact .s z hz
  | o h => exact .o (h.same s)
theorem TStr.eq {H : Hp} {x : V} (h : TStr H x true) : x = .str (zof x) ∧ (zof x).length ≤ 1000 := by
  cases h with
  | s z hz => exact ⟨rfl, hz⟩
section
open Evl
variable {K : Fg} {σ : L2.St} {H H' : Hp} {ta : TE}
theorem ev_isiX {x : V} {b : Bool} (ha : Ev ta σ H x) (hx : TStr H x b) : Ev (tCB (rIsi K) (tCons ta (tCons (tC (.ty "str")) tNil))) σ H (.bl b) := by
  cases hx with
  | s z hz => exact ev_isiS ha (kit_ty (by decide +kernel))
  | o h => exact ev_isiO ha h
end

/-! ### texts of low signs -/
/-- a text of at most n signs, all low -/
structure Lo (z : Str) (n : Nat) : Prop where
  len : z.length ≤ n
  low : ∀ c ∈ z.cps.toList, c < 1000
theorem Lo.up {z : Str} {n m : Nat} (h : Lo z n) (le : n ≤ m) : Lo z m := ⟨Nat.le_trans h.len le, h.low⟩
theorem lo_by {z : Str} {n : Nat} (h : (decide (z.length ≤ n) && z.cps.toList.all fun c => decide (c < 1000)) = true) : Lo z n := by
  simp only [Bool.and_eq_true, decide_eq_true_eq, List.all_eq_true] at h
  exact ⟨h.1, h.2⟩
theorem Lo.app {y z : Str} {n m : Nat} (hy : Lo y n) (hz : Lo z m) : Lo (y ++ z) (n + m) := by
  refine ⟨?_, fun c hc => ?_⟩
  · rw [strLen_append]
    have := hy.len
    have := hz.len
    omega
  · rcases mem_cps_append.mp hc with h | h
    · exact hy.low c h
    · exact hz.low c h
theorem Lo.cut {z : Str} {n : Nat} (h : Lo z n) (lo hi : Option Int) : Lo (cutS z lo hi) n :=
  ⟨Nat.le_trans (cutS_length z lo hi) h.len, fun c hc => h.low c (List.mem_of_mem_drop (List.mem_of_mem_take (by simpa [cutS] using hc)))⟩
theorem Lo.sign {z : Str} {n c : Nat} (h : Lo z n) (hc : c ∈ z.cps.toList) : Lo ⟨#[c]⟩ 1 := ⟨Nat.le_refl 1, fun d hd => by
  have e : d = c := by simpa using hd
  rw [e]
  exact h.low c hc⟩
theorem Lo.fit {z : Str} {n : Nat} (h : Lo z n) (hn : n ≤ 200000) : Fit (.str z) := by
  refine ⟨by simp [PyData.showable], ?_, ?_, by simp [PyData.depth]⟩
  · simp only [PyData.leavesShort, List.all_eq_true, decide_eq_true_eq]
    exact fun c hc => Nat.lt_trans (h.low c hc) (by decide)
  · have h1 := h.len
    have e : z.length = z.cps.size := rfl
    simp only [PyData.bulk]
    omega
theorem tl_eq (z : Str) : TL.tl z = z.cps.toList := rfl
theorem joinL_nil : ∀ ls : List (List Nat), TL.joinL [] ls = ls.flatten
  | [] => rfl
  | [p] => by simp [TL.joinL]
  | p :: q :: r => by
    have ih := joinL_nil (q :: r)
    show p ++ ([] ++ TL.joinL [] (q :: r)) = _
    rw [ih]
    simp
theorem join_codes (ys : List Str) : (Txt.join ⟨#[]⟩ ys).cps.toList = (ys.map fun y => y.cps.toList).flatten := by
  rw [TL.join_eq]
  show TL.tl _ = _
  rw [TL.tl_join, show TL.tl ⟨#[]⟩ = [] from rfl, joinL_nil]
theorem flat_len {ls : List (List Nat)} {m : Nat} (h : ∀ l ∈ ls, l.length ≤ m) : ls.flatten.length ≤ m * ls.length := by
  induction ls with
  | nil => simp
  | cons l r ih =>
    have h1 := h l (List.mem_cons_self ..)
    have h2 := ih fun x hx => h x (List.mem_cons_of_mem _ hx)
    rw [List.flatten_cons, List.length_append, List.length_cons, Nat.mul_succ]
    omega
theorem lo_join {ys : List Str} {m n : Nat} (h : ∀ y ∈ ys, Lo y m) (hn : ys.length ≤ n) : Lo (Txt.join ⟨#[]⟩ ys) (m * n) := by
  refine ⟨?_, fun c hc => ?_⟩
  · have e : (Txt.join ⟨#[]⟩ ys).length = ((ys.map fun y => y.cps.toList).flatten).length := by rw [← join_codes]; simp [Str.length]
    rw [e]
    refine Nat.le_trans (flat_len (m := m) fun l hl => ?_) ?_
    · obtain ⟨y, hy, rfl⟩ := List.mem_map.mp hl
      have := (h y hy).len
      simpa [Str.length] using this
    · rw [List.length_map]
      exact Nat.mul_le_mul_left m hn
  · rw [join_codes] at hc
    obtain ⟨l, hl, hc⟩ := List.mem_flatten.mp hc
    obtain ⟨y, hy, rfl⟩ := List.mem_map.mp hl
    exact (h y hy).low c hc
theorem sum_le {ys : List Str} {m : Nat} (h : ∀ y ∈ ys, y.length ≤ m) : (ys.map (·.length)).sum ≤ m * ys.length := by
  induction ys with
  | nil => simp
  | cons y r ih =>
    have h1 := h y (List.mem_cons_self ..)
    have h2 := ih fun x hx => h x (List.mem_cons_of_mem _ hx)
    rw [List.map_cons, List.sum_cons, List.length_cons, Nat.mul_succ]
    omega
def fitB (d : PyData) : Bool := d.showable && (d.leavesShort 40 && (decide (d.bulk ≤ 300000) && decide (d.depth ≤ 30)))
theorem fit_of {d : PyData} (h : fitB d = true) : Fit d := by
  unfold fitB at h
  simp only [Bool.and_eq_true, decide_eq_true_eq] at h
  exact ⟨h.1, h.2.1, h.2.2.1, h.2.2.2⟩
section
open Evl
variable {σ : L2.St} {H : Hp} {ta tb : TE}
theorem ev_addS {a b : Str} (ha : Ev ta σ H (.str a)) (hb : Ev tb σ H (.str b)) (hz : a.length + b.length ≤ 100000) :
    Ev (tOp (fun x y H Q => ∃ i j : Str, x = .str i ∧ y = .str j ∧ i.length + j.length ≤ sizeLine ∧ Q (.str (i ++ j)) H) ta tb) σ H (.str (a ++ b)) := fun H1 e Q q =>
  ha H1 e _ fun H2 e2 => hb H2 (e.trans e2) _ fun H3 e3 => ⟨a, b, rfl, rfl, sz_of hz, q H3 (e2.trans e3)⟩
end

/-! ### drawing -/
def PM : Int := 2305843009213693951
theorem pP : (0 : Int) < 2305843009213693951 := by decide
theorem pP2 : (0 : Int) < 2305843009213693921 := by decide
/-- a bag at b: digits, a seed, how often it was asked (at most n) -/
def BagAt (H : Hp) (b : Addr) (n : Nat) : Prop := ∃ d x c : Int, H b = some (.lst [.int d, .int x, .int c]) ∧ 0 ≤ d ∧ 0 ≤ x ∧ x < PM ∧ 0 ≤ c ∧ c ≤ n
theorem BagAt.up {H : Hp} {b : Addr} {n m : Nat} (h : BagAt H b n) (le : n ≤ m) : BagAt H b m := by
  obtain ⟨d, x, c, e, h1, h2, h3, h4, h5⟩ := h
  exact ⟨d, x, c, e, h1, h2, h3, h4, by omega⟩
theorem BagAt.to {H H' : Hp} {b : Addr} {n : Nat} (h : BagAt H b n) (e : H' b = H b) : BagAt H' b n := by
  obtain ⟨d, x, c, q, r⟩ := h
  exact ⟨d, x, c, e.trans q, r⟩
theorem BagAt.same {H H' : Hp} {b : Addr} {n : Nat} (h : BagAt H b n) (s : Same H H') : BagAt H' b n := by
  obtain ⟨d, x, c, q, r⟩ := h
  exact ⟨d, x, c, s _ _ q, r⟩
/-- nothing but b was touched -/
def But (b : Addr) (H H' : Hp) : Prop := ∀ p, p ≠ b → H' p = H p
def spBag (K : Fg) : Sp := fun vs H Q _ => ∃ (a : Addr) (ns : List Int) (i : Nat), vs = [.ref a, .int i] ∧ SqL K H a (ns.map V.int) ∧ i ≤ 100 ∧
  ∀ p H', H p = none → BagAt H' p 0 → Same H H' → Q (.ref p) H'
def spTake : Sp := fun vs H Q _ => ∃ (b : Addr) (m : Int) (n : Nat), vs = [.ref b, .int m] ∧ BagAt H b n ∧ n ≤ 1000000000 ∧ 0 < m ∧ m < 1000000 ∧
  ∀ (r : Int) (H' : Hp), 0 ≤ r → r < m → BagAt H' b (n + 1) → But b H H' → Q (.int r) H'

/-- the drawing part of a state: all of M stands, the bag stands at b beside it -/
structure Dr (M : Hp) (b : Addr) (n : Nat) (H : Hp) : Prop where
  same : Same M H
  fr : M b = none
  bag : BagAt H b n
section
variable {M : Hp} {b p : Addr} {n m : Nat} {H H' : Hp} {o : HO}
theorem Dr.ne (h : Dr M b n H) (q : H p = none) : p ≠ b := by
  obtain ⟨d, x, c, e, _⟩ := h.bag
  exact (ne_of_none e q).symm
theorem Dr.neM (h : Dr M b n H) {x : Addr} {u : HO} (q : M x = some u) : x ≠ b := ne_of_none q h.fr
theorem Dr.take (h : Dr M b n H) (hb : BagAt H' b m) (ht : But b H H') : Dr M b m H' :=
  ⟨fun x u e => (ht x (h.neM e)).trans (h.same x u e), h.fr, hb⟩
theorem Dr.on (h : Dr M b n H) (s : Same H H') : Dr M b n H' := ⟨h.same.trans s, h.fr, h.bag.same s⟩
theorem Dr.new (h : Dr M b n H) (q : H p = none) : Dr (upd M p o) b n (upd H p o) := by
  refine ⟨fun x u e => ?_, ?_, h.bag.to (upd_ne (h.ne q).symm)⟩
  · by_cases hx : x = p
    · subst hx
      rw [upd_same] at e ⊢
      exact e
    · rw [upd_ne hx] at e ⊢
      exact h.same x u e
  · rw [upd_ne (h.ne q).symm]
    exact h.fr
theorem Dr.mut (h : Dr M b n H) (q : M p = none) (ne : p ≠ b) : Dr M b n (upd H p o) := by
  refine ⟨fun x u e => ?_, h.fr, h.bag.to (upd_ne ne.symm)⟩
  rw [upd_ne (ne_of_none e q)]
  exact h.same x u e
theorem Dr.up (h : Dr M b n H) (le : n ≤ m) : Dr M b m H := ⟨h.same, h.fr, h.bag.up le⟩
theorem Dr.less {M' : Hp} (h : Dr M b n H) (s : Same M' M) : Dr M' b n H := ⟨s.trans h.same, s.free h.fr, h.bag⟩
theorem Dr.free (h : Dr M b n H) (q : H p = none) : M p = none := h.same.free q
/-- all but the bag stays -/
theorem Dr.kb (h : Dr M b n H) (hb : BagAt H' b m) (ht : ∀ x u, x ≠ b → H x = some u → H' x = some u) : Dr M b m H' :=
  ⟨fun x u e => ht x u (h.neM e) (h.same x u e), h.fr, hb⟩
end

/-! ### how often the laws turn -/
def turnsN (n : Int) : Int := if (if n < 6 then n else 6) > 2 then (if n < 6 then n else 6) else 2
theorem turns_le (n : Int) : 0 ≤ turnsN n ∧ turnsN n ≤ 6 := by
  unfold turnsN
  split <;> split <;> omega
section
open Evl
variable {σ : L2.St} {H : Hp} {ta tb : TE}
theorem ev_min2 {i j : Int} (ha : Ev ta σ H (.int i)) (hb : Ev tb σ H (.int j)) : Ev (tCB (fun xs H Q => ∃ i j, xs = [.int i, .int j] ∧ Q (.int (if j < i then j else i)) H) (tCons ta (tCons tb tNil))) σ H (.int (if j < i then j else i)) := fun H1 e Q q =>
  ha H1 e _ fun H2 e2 => hb H2 (e.trans e2) _ fun H3 e3 => ⟨i, j, rfl, q H3 (e2.trans e3)⟩
theorem ev_lenL {K : Fg} {a : Addr} {xs : List V} (ha : Ev ta σ H (.ref a)) (hs : SqL K H a xs) :
    Ev (tCB (fun ys H Q => ∃ p zs, ys = [.ref p] ∧ (SqL K H p zs ∨ SqT K H p zs) ∧ Q (.int zs.length) H) (tCons ta tNil)) σ H (.int (xs.length : Int)) := fun H1 e Q q =>
  ha H1 e _ fun H2 e2 => ⟨a, xs, rfl, .inl (ex_l (e.trans e2) hs), q H2 e2⟩
end
theorem atI_some {α : Type} {xs : List α} {r : Int} (h0 : 0 ≤ r) (h1 : r < xs.length) : ∃ v, atI xs r = some v ∧ v ∈ xs := by
  obtain ⟨j, rfl⟩ : ∃ j : Nat, r = (j : Int) := ⟨r.toNat, by omega⟩
  have hj : j < xs.length := by omega
  exact ⟨xs[j], atI_nat (List.getElem?_eq_getElem hj), List.getElem_mem hj⟩

theorem Cal.up {P : Program} {w : World} {K : Fg} {mg : Str → Option Value} {base : Heap} {CX : CXT} {j k : Nat} {x : Str} {ps : List Str} {sp : Sp} {f : Addr} {fd : FuncData} (C : Cal P w K mg base CX j x ps sp f fd) (h : j ≤ k) :
    Cal P w K mg base CX k x ps sp f fd := ⟨C.ok.mono h, C.mg, C.kp, C.b⟩
theorem CalG.up {P : Program} {w : World} {K : Fg} {mg : Str → Option Value} {base : Heap} {CX : CXT} {j k : Nat} {x : Str} {ps : List Str} {sp : Sp} {f : Addr} {fd : FuncData} (C : CalG P w K mg base CX j x ps sp f fd) (h : j ≤ k) :
    CalG P w K mg base CX k x ps sp f fd := ⟨C.ok.up h, C.mg, C.kp, C.b⟩
end Nm

set_option Elab.async false
set_option linter.all false
set_option maxRecDepth 100000
set_option maxHeartbeats 4000000
namespace Nm
open PySem PySem.Spec PyProof.Rows L2 Evl
def top (i : Nat) : Stmt := PySem.Challenge.pw_namesone_k01_signs_words_names.main.body.getD i (.Pass ⟨0, 0, 0, 0⟩)
structure Txt (K : Fg) (mg : Str → Option Value) : Prop where
  b_isinstance : mg "isinstance" = none
  b_str : mg "str" = none
  b_len : mg "len" = none
  b_all : mg "all" = none
  b_abs : mg "abs" = none
  b_repr : mg "repr" = none
  b_range : mg "range" = none
  b_max : mg "max" = none
  b_min : mg "min" = none
  c_SIGNS : ∃ u, mg "SIGNS" = some u ∧ RelV (.str "abcdefghijklmnopqrstuvwxyzABCDEFGHIJKLMNOPQRSTUVWXYZ0123456789'-.:^_~") u
  c_LONGEST_WORD : ∃ u, mg "LONGEST_WORD" = some u ∧ RelV (.int 40) u
  c_LONGEST_NAME : ∃ u, mg "LONGEST_NAME" = some u ∧ RelV (.int 12) u
/-! ### drawing: _law_bag, _law_take -/
abbrev s__law_bag : Stmt := top 9
abbrev sc__law_bag_N : List Str := ["_law_script", "_law_at", "_law_cell", "_law_digits"]
theorem sc__law_bag : FnScope sc__law_bag_N ["_law_script", "_law_at"] (defScope s__law_bag) := ⟨rfl, rfl, rfl, by decide +kernel, rfl, by decide +kernel, by decide +kernel⟩
abbrev s__law_take : Stmt := top 10
abbrev sc__law_take_N : List Str := ["_law_bag_here", "_law_many", "_law_digit", "_law_mixed"]
theorem sc__law_take : FnScope sc__law_take_N ["_law_bag_here", "_law_many"] (defScope s__law_take) := ⟨rfl, rfl, rfl, by decide +kernel, rfl, by decide +kernel, by decide +kernel⟩
section
variable {P : Program} {w : World} {K : Fg} {mg : Str → Option Value} {base : Heap}
theorem ok__law_bag {f : Addr} {fd : FuncData} {k : Nat} (F : Fun K "_law_bag" "_law_bag" s__law_bag f fd) (T : Txt K mg) : FnOk P w K mg base CX0 (k + 1) f fd ["_law_script", "_law_at"] (spBag K) := by
  refine F.ok sc__law_bag (fun vs H Q E h => ?_) (fun cdv A outer s H vs Q E hr h => ?_)
  · obtain ⟨a, ns, i, rfl, _⟩ := h
    rfl
  · obtain ⟨a, ns, i, rfl, hS, hi, q⟩ := h
    refine ⟨_, (pss_cons (ps_set (i := 2) sc__law_bag.nd rfl (Or.inl rfl) (pe_ifExp (pt_cmpR op_lt (pv 1) (pe_callB call_len_seq (by rfl) T.b_len PySem.boot_len (pa_cons (pv 0) pa_nil)) (nomark _)) (pe_ix ix_list (pv 0) (pv 1) (fun _ _ => rfl)) pe_int))
      (pss_cons (ps_set (i := 3) sc__law_bag.nd rfl (Or.inl rfl) (pe_ifExp (pt_cmpR op_ge (pe_callB call_abs (by rfl) T.b_abs (by decide +kernel) (pa_cons (pv 2) pa_nil)) (pe_op op_pow pe_int pe_int) (nomark _)) (pe_callB call_abs (by rfl) T.b_abs (by decide +kernel) (pa_cons (pv 2) pa_nil)) pe_int))
      (pss_one (ps_ret (pe_lstS (pa_cons (pv 3) (pa_cons (pe_op op_mod (pe_op op_mul (pe_op op_add (pe_op op_add (pe_op op_mod (pv 2) pe_int) (pe_op op_mul pe_int (pv 1))) pe_int) pe_int) pe_int) (pa_cons pe_int pa_nil)))))))), ?_⟩
    have fin : ∀ (z d : Int), 0 ≤ d → tLstS (tCons (tC (.int d)) (tCons (tC (.int ((z % 2305843009213693951 + 6211 * (i : Int) + 17) * 92821993 % 2305843009213693951))) (tCons (tC (.int 0)) tNil))) [] H Q := fun z d hd =>
      ⟨(show 3 ≤ sizeLine by decide), fun p np _ => q p _ np ⟨d, _, 0, upd_same, hd, Int.emod_nonneg _ (by decide), Int.emod_lt_of_pos _ (by decide), by decide, by decide⟩ fun y o e => (upd_ne (ne_of_none e np)).trans e⟩
    refine ⟨_, rfl, _, rfl, a, _, rfl, .inl hS, _, _, rfl, rfl, _, rfl, ite2 (fun h1 => ?_) (fun h1 => ?_)⟩
    · have h2 : i < ns.length := by
        have q := of_decide_eq_true h1
        rw [List.length_map] at q
        omega
      refine ⟨_, rfl, _, rfl, a, _, _, _, rfl, rfl, hS, atI_nat (j := i) (v := .int ns[i]) (by rw [List.getElem?_map, List.getElem?_eq_getElem h2]; rfl), ?_⟩
      refine ⟨_, rfl, _, rfl, _, _, rfl, rfl, ⟨by decide, by decide, by decide⟩, _, _, rfl, rfl, _, rfl, ite2 (fun h3 => ?_) (fun h3 => ?_)⟩
      · refine ⟨_, rfl, _, rfl, _, rfl, _, rfl, _, _, rfl, rfl, pP, _, rfl, _, _, rfl, rfl, .inl ⟨by decide, by decide⟩, _, _, rfl, rfl, _, _, rfl, rfl, _, _, rfl, rfl, .inr ⟨by decide, by decide⟩, _, _, rfl, rfl, pP, ?_⟩
        refine fin ns[i] _ ?_
        split <;> omega
      · refine ⟨_, rfl, _, rfl, _, _, rfl, rfl, pP, _, rfl, _, _, rfl, rfl, .inl ⟨by decide, by decide⟩, _, _, rfl, rfl, _, _, rfl, rfl, _, _, rfl, rfl, .inr ⟨by decide, by decide⟩, _, _, rfl, rfl, pP, ?_⟩
        exact fin ns[i] 0 (by decide)
    · refine ⟨_, rfl, _, rfl, _, _, rfl, rfl, ⟨by decide, by decide, by decide⟩, _, _, rfl, rfl, _, rfl, ite2 (fun h3 => ?_) (fun h3 => ?_)⟩
      · refine ⟨_, rfl, _, rfl, _, rfl, _, rfl, _, _, rfl, rfl, pP, _, rfl, _, _, rfl, rfl, .inl ⟨by decide, by decide⟩, _, _, rfl, rfl, _, _, rfl, rfl, _, _, rfl, rfl, .inr ⟨by decide, by decide⟩, _, _, rfl, rfl, pP, ?_⟩
        refine fin 0 _ ?_
        decide
      · refine ⟨_, rfl, _, rfl, _, _, rfl, rfl, pP, _, rfl, _, _, rfl, rfl, .inl ⟨by decide, by decide⟩, _, _, rfl, rfl, _, _, rfl, rfl, _, _, rfl, rfl, .inr ⟨by decide, by decide⟩, _, _, rfl, rfl, pP, ?_⟩
        exact fin 0 0 (by decide)
theorem ok__law_take {f : Addr} {fd : FuncData} {k : Nat} (F : Fun K "_law_take" "_law_take" s__law_take f fd) : FnOk P w K mg base CX0 (k + 1) f fd ["_law_bag_here", "_law_many"] spTake := by
  refine F.ok sc__law_take (fun vs H Q E h => ?_) (fun cdv A outer s H vs Q E hr h => ?_)
  · obtain ⟨b, m, n, rfl, _⟩ := h
    rfl
  · obtain ⟨b, m, n, rfl, ⟨d, x, c, hB, hd, hx, hx2, hc, hcn⟩, hn, hm, hm2, q⟩ := h
    have hm3 : m < 1073741824 := by omega
    refine ⟨_, (pss_cons (ps_if (pt_cmpR op_gt (pe_ix ix_list (pv 0) pe_int (fun _ _ => rfl)) pe_int (nomark _)) (pss_cons (ps_set (i := 2) sc__law_take.nd rfl (Or.inl rfl) (pe_op op_mod (pe_ix ix_list (pv 0) pe_int (fun _ _ => rfl)) (pv 1)))
      (pss_cons (ps_asg (pe_op op_fdiv (pe_ix ix_list (pv 0) pe_int (fun _ _ => rfl)) (pv 1)) (pg_sub (pv 0) pe_int set_list))
      (pss_one (ps_ret (pv 2))))) pss_nil)
      (pss_cons (ps_asg (pe_op op_add (pe_ix ix_list (pv 0) pe_int (fun _ _ => rfl)) pe_int) (pg_sub (pv 0) pe_int set_list))
      (pss_cons (ps_set (i := 3) sc__law_take.nd rfl (Or.inl rfl) (pe_op op_mod (pe_op op_pow (pe_op op_add (pe_ix ix_list (pv 0) pe_int (fun _ _ => rfl)) (pe_op op_mul pe_int (pe_ix ix_list (pv 0) pe_int (fun _ _ => rfl)))) pe_int) pe_int))
      (pss_cons (ps_set (i := 3) sc__law_take.nd rfl (Or.inl rfl) (pe_op op_mod (pe_op op_pow (pe_op op_add (pv 3) (pe_op op_mul pe_int (pe_ix ix_list (pv 0) pe_int (fun _ _ => rfl)))) pe_int) pe_int))
      (pss_one (ps_ret (pe_op op_mod (pe_op op_fdiv (pv 3) pe_int) (pv 1)))))))), ?_⟩
    refine ⟨_, rfl, b, _, 0, _, rfl, rfl, SqL.of hB, rfl, _, _, rfl, rfl, _, rfl, ite2 (fun hd0 => ?_) (fun hd0 => ?_)⟩
    · refine ⟨_, rfl, b, _, 0, _, rfl, rfl, SqL.of hB, rfl, _, rfl, _, _, rfl, rfl, hm, ?_⟩
      refine ⟨_, rfl, b, _, 0, _, rfl, rfl, SqL.of hB, rfl, _, rfl, _, _, rfl, rfl, ⟨hm, hm3⟩, _, rfl, b, _, _, 0, rfl, rfl, hB, rfl, ?_⟩
      refine ⟨_, rfl, q _ _ (Int.emod_nonneg _ (by omega)) (Int.emod_lt_of_pos _ hm) ⟨d / m, x, c, upd_same, Int.ediv_nonneg hd (by omega), hx, hx2, hc, by omega⟩ fun p hp => upd_ne hp⟩
    · have hc1 : c + 1 ≤ 1000000001 := by omega
      have s1 : (x + 5000011 * (c + 1)).natAbs < 2 ^ 64 := by unfold PM at hx2; omega
      -- bag[2] = bag[2] + 1
      refine ⟨_, rfl, b, _, 2, _, rfl, rfl, SqL.of hB, rfl, _, _, rfl, rfl, _, rfl, b, _, _, 2, rfl, rfl, hB, rfl, ?_⟩
      have hB2 : upd H b (.lst [V.int d, .int x, .int (c + 1)]) b = some (.lst [.int d, .int x, .int (c + 1)]) := upd_same
      show ∃ _, _
      refine ⟨_, rfl, b, _, 1, _, rfl, rfl, SqL.of hB2, rfl, _, rfl, b, _, 2, _, rfl, rfl, SqL.of hB2, rfl, _, _, rfl, rfl, .inl ⟨by decide, by decide⟩, _, _, rfl, rfl, _, _, rfl, rfl, ⟨by decide, by decide, s1⟩, _, _, rfl, rfl, pP2, ?_⟩
      have m0 : ∀ y z : Int, 0 < z → 0 ≤ y % z ∧ y % z < z := fun y z hz => ⟨Int.emod_nonneg _ (by omega), Int.emod_lt_of_pos _ hz⟩
      have m1 := m0 ((x + 5000011 * (c + 1)) ^ (3 : Int).toNat) 2305843009213693921 (by decide)
      have s2 : ((x + 5000011 * (c + 1)) ^ (3 : Int).toNat % 2305843009213693921 + 71993051 * (c + 1)).natAbs < 2 ^ 64 := by
        generalize (x + 5000011 * (c + 1)) ^ (3 : Int).toNat % 2305843009213693921 = y at m1 ⊢
        omega
      refine ⟨_, rfl, _, rfl, b, _, 2, _, rfl, rfl, SqL.of hB2, rfl, _, _, rfl, rfl, .inl ⟨by decide, by decide⟩, _, _, rfl, rfl, _, _, rfl, rfl, ⟨by decide, by decide, s2⟩, _, _, rfl, rfl, pP, ?_⟩
      refine ⟨_, rfl, _, _, rfl, rfl, ⟨by decide, by decide⟩, _, rfl, _, _, rfl, rfl, hm, ?_⟩
      refine q _ _ (Int.emod_nonneg _ (by omega)) (Int.emod_lt_of_pos _ hm) ⟨d, x, c + 1, hB2, hd, hx, hx2, by omega, by omega⟩ fun p hp => upd_ne hp
end
/-! ### signs, words, names -/
abbrev SIGNS : Str := "abcdefghijklmnopqrstuvwxyzABCDEFGHIJKLMNOPQRSTUVWXYZ0123456789'-.:^_~"
def sgn (c : Nat) : Bool := decide (c ∈ SIGNS.cps.toList)
def upTo (z : Str) (m : Int) : Bool := decide ((1 : Int) ≤ (z.length : Int)) && (decide ((z.length : Int) ≤ m) && z.cps.toList.all sgn)
def isSg (z : Str) : Bool := decide ((z.length : Int) = 1) && z.cps.toList.all sgn
def spSg : Sp := fun vs H Q _ => ∃ x, vs = [x] ∧ ((∃ z : Str, x = .str z ∧ z.length ≤ 100000 ∧ Q (.bl (isSg z)) H) ∨ (Oth H x ∧ Q (.bl false) H))
def spUp : Sp := fun vs H Q _ => ∃ x m, vs = [x, .int m] ∧ ((∃ z : Str, x = .str z ∧ z.length ≤ 100000 ∧ ∀ H', Same H H' → Q (.bl (upTo z m)) H') ∨ (Oth H x ∧ Q (.bl false) H))
def spUpTo (m : Int) : Sp := fun vs H Q _ => ∃ x, vs = [x] ∧ ((∃ z : Str, x = .str z ∧ z.length ≤ 100000 ∧ ∀ H', Same H H' → Q (.bl (upTo z m)) H') ∨ (Oth H x ∧ Q (.bl false) H))
theorem len_str (z : Str) : z.length = z.cps.toList.length := by simp [Str.length]
theorem one_sign {z : Str} (h : z.length = 1) : ∃ c, z = ⟨#[c]⟩ := by
  have h2 : z.cps.toList.length = 1 := by rw [← len_str]; exact h
  obtain ⟨c, e⟩ := List.length_eq_one_iff.mp h2
  exact ⟨c, Str.ext' (Array.toList_inj.mp (by simpa using e))⟩
theorem map_bl {l : List Nat} {f : Nat → Bool} : (l.map fun c => V.bl (f c)) = (l.map f).map V.bl := by rw [List.map_map]; rfl
theorem all_id {l : List Nat} {f : Nat → Bool} : (l.map f).all id = l.all f := by rw [List.all_map]; rfl
abbrev s_is_sign : Stmt := top 4
abbrev sc_is_sign_N : List Str := ["thing"]
theorem sc_is_sign : FnScope sc_is_sign_N ["thing"] (defScope s_is_sign) := ⟨rfl, rfl, rfl, by decide +kernel, rfl, by decide +kernel, by decide +kernel⟩
abbrev s_is_word : Stmt := top 5
abbrev sc_is_word_N : List Str := ["thing"]
theorem sc_is_word : FnScope sc_is_word_N ["thing"] (defScope s_is_word) := ⟨rfl, rfl, rfl, by decide +kernel, rfl, by decide +kernel, by decide +kernel⟩
abbrev s_is_name : Stmt := top 6
abbrev sc_is_name_N : List Str := ["thing"]
theorem sc_is_name : FnScope sc_is_name_N ["thing"] (defScope s_is_name) := ⟨rfl, rfl, rfl, by decide +kernel, rfl, by decide +kernel, by decide +kernel⟩
abbrev s__is_word_up_to : Stmt := top 7
abbrev sc__is_word_up_to_N : List Str := ["thing", "most", "sign"]
theorem sc__is_word_up_to : FnScope sc__is_word_up_to_N ["thing", "most"] (defScope s__is_word_up_to) := ⟨rfl, rfl, rfl, by decide +kernel, rfl, by decide +kernel, by decide +kernel⟩
section
variable {P : Program} {w : World} {K : Fg} {mg : Str → Option Value} {base : Heap}
theorem ok_is_sign {f : Addr} {fd : FuncData} {k : Nat} (F : Fun K "is_sign" "is_sign" s_is_sign f fd) (T : Txt K mg) : FnOk P w K mg base CX0 (k + 1) f fd ["thing"] spSg := by
  refine F.ok sc_is_sign (fun vs H Q E h => ?_) (fun cdv A outer s H vs Q E hr h => ?_)
  · obtain ⟨x, rfl, _⟩ := h
    rfl
  · obtain ⟨x, rfl, h⟩ := h
    refine ⟨_, (pss_one (ps_ret (pe_and (pe_callB call_isi (by rfl) T.b_isinstance (by decide +kernel) (pa_cons (pv 0) (pa_cons (pe_bltn (v := .ty "str") (by rfl) T.b_str (by decide +kernel) rfl) pa_nil))) (pe_and (pe_cmpR op_eq (pe_callB call_len_str (by rfl) T.b_len PySem.boot_len (pa_cons (pv 0) pa_nil)) pe_int (nomark _)) (pe_one (pe_cmpR op_in_sign (pv 0) (pe_gx (by rfl) T.c_SIGNS) (by rfl))))))), ?_⟩
    rcases h with ⟨z, rfl, hz, q⟩ | ⟨ho, q⟩
    · obtain ⟨t, ty, kt⟩ := str_ty (K := K) (H := H) z
      have hz2 : z.length ≤ sizeLine := Nat.le_trans hz (by decide)
      refine ⟨_, rfl, _, .ty "str", t, _, _, rfl, .ty "str", ty, kt, _, rfl, iteT ?_⟩
      refine ⟨_, rfl, _, rfl, hz2, rfl, _, rfl, ite2 (fun h1 => ?_) (fun h1 => ?_)⟩
      · have h2 : (z.length : Int) = 1 := V.int.inj (of_decide_eq_true h1)
        obtain ⟨c, rfl⟩ := one_sign (z := z) (by omega)
        refine ⟨_, rfl, c, _, rfl, rfl, ?_⟩
        have e : isSg ⟨#[c]⟩ = decide (c ∈ SIGNS.cps.toList) := by
          unfold isSg
          rw [decide_eq_true h2]
          simp [sgn]
        rw [e] at q
        exact q
      · have h2 : ¬ (z.length : Int) = 1 := fun e => h1 (decide_eq_true (by rw [e]))
        have e : isSg z = false := by
          unfold isSg
          rw [decide_eq_false h2]
          rfl
        rw [e] at q
        exact q
    · obtain ⟨t, ty, kt⟩ := ho.ty (K := K)
      exact ⟨_, rfl, _, .ty "str", t, _, _, rfl, .ty "str", ty, kt, _, rfl, iteF q⟩
theorem ok__is_word_up_to {f : Addr} {fd : FuncData} {k : Nat} (F : Fun K "_is_word_up_to" "_is_word_up_to" s__is_word_up_to f fd) (T : Txt K mg) : FnOk P w K mg base CX0 (k + 1) f fd ["thing", "most"] spUp := by
  refine F.ok sc__is_word_up_to (fun vs H Q E h => ?_) (fun cdv A outer s H vs Q E hr h => ?_)
  · obtain ⟨x, m, rfl, _⟩ := h
    rfl
  · obtain ⟨x, m, rfl, h⟩ := h
    refine ⟨_, (pss_cons (ps_if (PW.pt (pw_or (pt_not (pt_val (pe_callB call_isi (by rfl) T.b_isinstance (by decide +kernel) (pa_cons (pv 0) (pa_cons (pe_bltn (v := .ty "str") (by rfl) T.b_str (by decide +kernel) rfl) pa_nil))))) (pw_or1 (pt_not (pt_chain op_le op_le pe_int (pe_callB call_len_str (by rfl) T.b_len PySem.boot_len (pa_cons (pv 0) pa_nil)) (pv 1)))))) (pss_one (ps_ret pe_bl)) pss_nil)
      (pss_one (ps_ret (pe_callB (cr_all rfl) (by rfl) T.b_all (by decide +kernel) (pa_cons (pe_lc (own := [("sign", 2)]) (g := gName 2) (tt := tYes) rfl sc__is_word_up_to.nd (pi_str (pv 0)) (blkOk_by (own := [("sign", 2)]) (N := sc__is_word_up_to_N) (sc := defScope s__is_word_up_to) (by decide +kernel)) (fun _ _ _ _ _ => pg_name (i := 2) sc__is_word_up_to.nd rfl (Or.inl rfl)) (fun _ _ _ _ _ => pts_nil) (fun _ _ _ _ _ => (pe_cmpR op_in_sign (pv 2) (pe_gx (by rfl) T.c_SIGNS) (by rfl)))) pa_nil))))), ?_⟩
    rcases h with ⟨z, rfl, hz, q⟩ | ⟨ho, q⟩
    · obtain ⟨t, ty, kt⟩ := str_ty (K := K) (H := H) z
      have hz2 : z.length ≤ sizeLine := Nat.le_trans hz (by decide)
      refine ⟨_, rfl, _, .ty "str", t, _, _, rfl, .ty "str", ty, kt, _, rfl, iteF ?_⟩
      refine ⟨_, rfl, _, rfl, hz2, _, _, rfl, rfl, _, rfl, ite2 (fun h1 => ?_) (fun h1 => ?_)⟩
      · have h1' := of_decide_eq_true h1
        refine ⟨_, rfl, _, _, rfl, rfl, _, rfl, ?_⟩
        by_cases h2 : (z.length : Int) ≤ m
        · rw [decide_eq_true h2]
          refine iteF ?_
          refine ⟨_, rfl, _, rfl, fun D nD => lc_str (z := z) (fun c => .bl (sgn c)) hz (fun c H' R hc h => ⟨_, rfl, c, _, rfl, rfl, h⟩) ?_⟩
          refine ⟨D, z.cps.toList.map sgn, rfl, SqL.of (by rw [upd_same, map_bl]), ?_⟩
          have q2 := q _ (same_new (o := .lst (z.cps.toList.map fun c => .bl (sgn c))) nD)
          unfold upTo at q2
          rw [decide_eq_true h1', decide_eq_true h2] at q2
          rw [all_id]
          exact q2
        · rw [decide_eq_false h2]
          refine iteT ?_
          have q2 := q _ (Same.refl _)
          rw [show upTo z m = false by unfold upTo; rw [decide_eq_false h2]; simp] at q2
          exact q2
      · refine ⟨_, rfl, iteT ?_⟩
        have q2 := q _ (Same.refl _)
        rw [show upTo z m = false by unfold upTo; rw [decide_eq_false (show ¬ (1 : Int) ≤ (z.length : Int) from fun e => h1 (decide_eq_true e))]; simp] at q2
        exact q2
    · obtain ⟨t, ty, kt⟩ := ho.ty (K := K)
      exact ⟨_, rfl, _, .ty "str", t, _, _, rfl, .ty "str", ty, kt, _, rfl, iteT q⟩
theorem ok_is_word {f fu : Addr} {fd fdu : FuncData} {k : Nat} (F : Fun K "is_word" "is_word" s_is_word f fd) (T : Txt K mg) (C__is_word_up_to : Cal P w K mg base CX0 k "_is_word_up_to" ["thing", "most"] spUp fu fdu) : FnOk P w K mg base CX0 (k + 1) f fd ["thing"] (spUpTo 40) := by
  refine F.ok sc_is_word (fun vs H Q E h => ?_) (fun cdv A outer s H vs Q E hr h => ?_)
  · obtain ⟨x, rfl, _⟩ := h
    rfl
  · obtain ⟨x, rfl, h⟩ := h
    refine ⟨_, (pss_one (ps_ret (pe_call C__is_word_up_to.ok hr (by rfl) C__is_word_up_to.mg C__is_word_up_to.kp C__is_word_up_to.b .nil pass0 (pa_cons (pv 0) (pa_cons (pe_gx (by rfl) T.c_LONGEST_WORD) pa_nil))))), ?_⟩
    exact ⟨_, rfl, x, 40, rfl, h⟩
theorem ok_is_name {f fu : Addr} {fd fdu : FuncData} {k : Nat} (F : Fun K "is_name" "is_name" s_is_name f fd) (T : Txt K mg) (C__is_word_up_to : Cal P w K mg base CX0 k "_is_word_up_to" ["thing", "most"] spUp fu fdu) : FnOk P w K mg base CX0 (k + 1) f fd ["thing"] (spUpTo 12) := by
  refine F.ok sc_is_name (fun vs H Q E h => ?_) (fun cdv A outer s H vs Q E hr h => ?_)
  · obtain ⟨x, rfl, _⟩ := h
    rfl
  · obtain ⟨x, rfl, h⟩ := h
    refine ⟨_, (pss_one (ps_ret (pe_call C__is_word_up_to.ok hr (by rfl) C__is_word_up_to.mg C__is_word_up_to.kp C__is_word_up_to.b .nil pass0 (pa_cons (pv 0) (pa_cons (pe_gx (by rfl) T.c_LONGEST_NAME) pa_nil))))), ?_⟩
    exact ⟨_, rfl, x, 12, rfl, h⟩
end
/-! ### any values -/
/-- a value whose repr is known: a text, or another thing -/
def Good (K : Fg) (H : Hp) (x : V) : Prop := ∃ d b, Dx K H x d ∧ Fit d ∧ TStr H x b
theorem Good.same {K : Fg} {H H' : Hp} {x : V} (h : Good K H x) (s : Same H H') : Good K H' x := by
  obtain ⟨d, b, h1, h2, h3⟩ := h
  exact ⟨d, b, h1.same s, h2, h3.same s⟩
theorem Lo.good {K : Fg} {H : Hp} {z : Str} (h : Lo z 1000) : Good K H (.str z) := ⟨_, _, .str z, h.fit (by decide), .s z h.len⟩
theorem good_o {K : Fg} {H : Hp} {x : V} {d : PyData} (h : Dx K H x d) (hf : Fit d) (ho : Oth H x) : Good K H x := ⟨d, false, h, hf, .o ho⟩
theorem st {H F : Hp} {p : Addr} {o : HO} (n : H p = none) (h : Same (upd H p o) F) : Same H F ∧ F p = some o := ⟨(same_new n).trans h, h _ _ upd_same⟩
theorem st2 {H F : Hp} {p : Addr} {a o : HO} (n : H p = none) (h : Same (upd (upd H p a) p o) F) : Same H F ∧ F p = some o := by
  rw [upd_upd] at h
  exact st n h
def spAny (K : Fg) : Sp := fun vs H Q _ => ∃ (b : Addr) (n : Nat), vs = [.ref b] ∧ BagAt H b n ∧ n ≤ 100000000 ∧
  ∀ v H', Good K H' v → BagAt H' b (n + 1) → (∀ x u, x ≠ b → H x = some u → H' x = some u) → Q v H'
abbrev s__law_any : Stmt := top 11
abbrev sc__law_any_N : List Str := ["_law_bag_here", "_law_some"]
theorem sc__law_any : FnScope sc__law_any_N ["_law_bag_here"] (defScope s__law_any) := ⟨rfl, rfl, rfl, by decide +kernel, rfl, by decide +kernel, by decide +kernel⟩
section
variable {P : Program} {w : World} {K : Fg} {mg : Str → Option Value} {base : Heap}
theorem ok__law_any {f f1 : Addr} {fd fd1 : FuncData} {k : Nat} (F : Fun K "_law_any" "_law_any" s__law_any f fd) (T : Txt K mg) (C__law_take : Cal P w K mg base CX0 k "_law_take" ["_law_bag_here", "_law_many"] spTake f1 fd1) :
    FnOk P w K mg base CX0 (k + 1) f fd ["_law_bag_here"] (spAny K) := by
  refine F.ok sc__law_any (fun vs H Q E h => ?_) (fun cdv A outer s H vs Q E hr h => ?_)
  · obtain ⟨b, n, rfl, _⟩ := h
    rfl
  · obtain ⟨b, n, rfl, hB, hn, q⟩ := h
    refine ⟨_, (pss_cons (ps_set (i := 1) sc__law_any.nd rfl (Or.inl rfl) (pe_lstS (pa_cons pe_non (pa_cons pe_bl (pa_cons pe_int (pa_cons (pe_op op_pow pe_int pe_int) (pa_cons (pe_lstS pa_nil) (pa_cons (pe_lstS (pa_cons pe_str pa_nil)) (pa_cons (pe_tup (pa_cons pe_str pa_nil)) (pa_cons (pe_tup (pa_cons pe_str (pa_cons pe_str pa_nil))) (pa_cons pe_dnewK (pa_cons (pe_disp (pps_cons pe_str pe_str pps_nil) (by decide +kernel) (by rfl) (by simp) (by decide)) (pa_cons (pe_tup pa_nil) (pa_cons (pe_lstS (pa_cons pe_non pa_nil)) (pa_cons (pe_un un_neg pe_int) (pa_cons pe_int (pa_cons pe_bl (pa_cons (pe_lstS (pa_cons (pe_lstS (pa_cons pe_str pa_nil)) pa_nil)) pa_nil))))))))))))))))))
      (pss_one (ps_ret (pe_ix ix_list (pv 1) (pe_call C__law_take.ok hr (by rfl) C__law_take.mg C__law_take.kp C__law_take.b .nil pass0 (pa_cons (pv 0) (pa_cons pe_int pa_nil))) (fun _ _ => rfl))))), ?_⟩
    refine ⟨_, _, rfl, rfl, ⟨by decide, by decide, by decide⟩, ?_⟩
    refine ⟨(show 0 ≤ sizeLine by decide), fun p1 n1 ne1 => ⟨(show 1 ≤ sizeLine by decide), fun p2 n2 ne2 => ?_⟩⟩
    refine ⟨(show 1 ≤ sizeLine by decide), fun p3 n3 => ⟨(show 2 ≤ sizeLine by decide), fun p4 n4 => ?_⟩⟩
    refine fun p5 n5 => fun p6 n6 => ?_
    refine ⟨upd_same, [(.inr "a", .str "b")], rfl, (show 1 ≤ 15 by decide), ?_⟩
    refine ⟨(show 0 ≤ sizeLine by decide), fun p7 n7 => ⟨(show 1 ≤ sizeLine by decide), fun p8 n8 ne8 => ?_⟩⟩
    refine ⟨_, rfl, ⟨(show 1 ≤ sizeLine by decide), fun p9 n9 ne9 => ⟨(show 1 ≤ sizeLine by decide), fun p10 n10 ne10 => ?_⟩⟩⟩
    refine ⟨(show 16 ≤ sizeLine by decide), fun p11 n11 ne11 => ?_⟩
    -- what was made stands at the end
    obtain ⟨db, xb, cb, eB, rB⟩ := hB
    let o11 : HO := .lst [.non, .bl true, .int 0, .int ((10 : Int) ^ (30 : Int).toNat), .ref p1, .ref p2, .ref p3, .ref p4, .ref p5, .ref p6, .ref p7, .ref p8, .int (-1), .int 1, .bl false, .ref p10]
    have t11 := st n11 (o := o11) (Same.refl _)
    have t10 := st n10 t11.1
    have t9 := st n9 t10.1
    have t8 := st n8 t9.1
    have t7 := st n7 t8.1
    have t6 := st2 n6 t7.1
    have t5 := st n5 t6.1
    have t4 := st n4 t5.1
    have t3 := st n3 t4.1
    have t2 := st n2 t3.1
    have t1 := st n1 t2.1
    have tb := t1.1 _ _ eB
    refine ⟨_, rfl, _, rfl, b, 16, n, rfl, ⟨db, xb, cb, tb, rB⟩, by omega, by decide, by decide, fun r H' h0 hr hB' hBut => ?_⟩
    have g0 : ∀ {F : Hp} {p : Addr} {o : HO}, But b F H' → F b = some (.lst [.int db, .int xb, .int cb]) → F p = some o → o ≠ .lst [.int db, .int xb, .int cb] → H' p = some o := fun k kb h z => (k _ (ne_of h kb z)).trans h
    have e1 := g0 hBut tb t1.2 (by intro z; cases z)
    have e2 := g0 hBut tb t2.2 (by intro z; cases z)
    have e3 := g0 hBut tb t3.2 (by intro z; cases z)
    have e4 := g0 hBut tb t4.2 (by intro z; cases z)
    have e5 := g0 hBut tb t5.2 (by intro z; cases z)
    have e6 := g0 hBut tb t6.2 (by intro z; cases z)
    have e7 := g0 hBut tb t7.2 (by intro z; cases z)
    have e8 := g0 hBut tb t8.2 (by intro z; cases z)
    have e9 := g0 hBut tb t9.2 (by intro z; cases z)
    have e10 := g0 hBut tb t10.2 (by intro z; cases z)
    have e11 := g0 hBut tb t11.2 (by intro z; simp [o11] at z)
    have lit : ∀ i : Int, fitB (.int i) = true → Good K H' (.int i) := fun i h => good_o (.int i) (fit_of h) (.int i)
    have all : ∀ v ∈ ([.non, .bl true, .int 0, .int ((10 : Int) ^ (30 : Int).toNat), .ref p1, .ref p2, .ref p3, .ref p4, .ref p5, .ref p6, .ref p7, .ref p8, .int (-1), .int 1, .bl false, .ref p10] : List V), Good K H' v := by
      refine List.forall_mem_cons.mpr ⟨good_o .non (fit_of (by decide +kernel)) .non, List.forall_mem_cons.mpr ⟨good_o (.bl _) (fit_of (by decide +kernel)) (.bl _), List.forall_mem_cons.mpr ⟨lit _ (by decide +kernel), List.forall_mem_cons.mpr ⟨lit _ (by decide +kernel), ?_⟩⟩⟩⟩
      refine List.forall_mem_cons.mpr ⟨good_o (.lst ne1 (sq_of e1) .nil) (fit_of (by decide +kernel)) (.lst e1), List.forall_mem_cons.mpr ⟨good_o (.lst ne2 (sq_of e2) (.cons (.str _) .nil)) (fit_of (by decide +kernel)) (.lst e2), ?_⟩⟩
      refine List.forall_mem_cons.mpr ⟨good_o (.tup (st_of e3) (.cons (.str _) .nil)) (fit_of (by decide +kernel)) (.tup e3), List.forall_mem_cons.mpr ⟨good_o (.tup (st_of e4) (.cons (.str _) (.cons (.str _) .nil))) (fit_of (by decide +kernel)) (.tup e4), ?_⟩⟩
      refine List.forall_mem_cons.mpr ⟨good_o (.dic (.of e5) .nil) (fit_of (by decide +kernel)) (.dic e5), List.forall_mem_cons.mpr ⟨good_o (.dic (.of e6) (.cons (.str _) .nil)) (fit_of (by decide +kernel)) (.dic e6), ?_⟩⟩
      refine List.forall_mem_cons.mpr ⟨good_o (.tup (st_of e7) .nil) (fit_of (by decide +kernel)) (.tup e7), List.forall_mem_cons.mpr ⟨good_o (.lst ne8 (sq_of e8) (.cons .non .nil)) (fit_of (by decide +kernel)) (.lst e8), ?_⟩⟩
      refine List.forall_mem_cons.mpr ⟨lit _ (by decide +kernel), List.forall_mem_cons.mpr ⟨lit _ (by decide +kernel), List.forall_mem_cons.mpr ⟨good_o (.bl _) (fit_of (by decide +kernel)) (.bl _), List.forall_mem_cons.mpr ⟨good_o (.lst ne10 (sq_of e10) (.cons (.lst ne9 (sq_of e9) (.cons (.str _) .nil)) .nil)) (fit_of (by decide +kernel)) (.lst e10), ?_⟩⟩⟩⟩
      exact fun _ h => nomatch h
    obtain ⟨j, rfl⟩ : ∃ j : Nat, r = (j : Int) := ⟨r.toNat, by omega⟩
    obtain ⟨v, hv⟩ : ∃ v, ([.non, .bl true, .int 0, .int ((10 : Int) ^ (30 : Int).toNat), .ref p1, .ref p2, .ref p3, .ref p4, .ref p5, .ref p6, .ref p7, .ref p8, .int (-1), .int 1, .bl false, .ref p10] : List V)[j]? = some v :=
      ⟨_, List.getElem?_eq_getElem (show j < 16 by omega)⟩
    exact ⟨p11, _, (j : Int), v, rfl, rfl, SqL.of e11, atI_nat hv, q v H' (all v (List.mem_of_getElem? hv)) hB' fun x u hx hu => (hBut x hx).trans (t1.1 x u hu)⟩
end
/-! ### the law's own defs -/
abbrev KNOWN : Str := "'-.0123456789:ABCDEFGHIJKLMNOPQRSTUVWXYZ^_abcdefghijklmnopqrstuvwxyz~"
def OTHERS : Str := ⟨#[32, 33, 34, 35, 36, 38, 40, 41, 42, 43, 44, 47, 59, 60, 61, 62, 63, 64, 91, 92, 93, 96, 123, 124, 125, 10]⟩
def kn (c : Nat) : Bool := decide (c ∈ KNOWN.cps.toList)
theorem kn_sgn (c : Nat) : kn c = sgn c := by
  have h1 : KNOWN.cps.toList.all (fun c => decide (c ∈ SIGNS.cps.toList)) = true := by decide +kernel
  have h2 : SIGNS.cps.toList.all (fun c => decide (c ∈ KNOWN.cps.toList)) = true := by decide +kernel
  rw [List.all_eq_true] at h1 h2
  unfold kn sgn
  rw [decide_eq_decide]
  exact ⟨fun h => of_decide_eq_true (h1 c h), fun h => of_decide_eq_true (h2 c h)⟩
theorem all_kn (z : Str) : z.cps.toList.all kn = z.cps.toList.all sgn := by rw [show kn = sgn from funext kn_sgn]
/-- how many signs, 0 if another one is there -/
def many (x : V) (b : Bool) : Int := if (b && (zof x).cps.toList.all kn) = true then ((zof x).length : Int) else 0
theorem many_sg {H : Hp} {x : V} {b : Bool} (h : TStr H x b) : ((match b with | true => isSg (zof x) | false => false) = decide (many x b = 1)) := by
  unfold many isSg
  cases b with
  | false => rfl
  | true =>
    rw [Bool.true_and, all_kn]
    cases e : (zof x).cps.toList.all sgn with
    | true => simp
    | false => simp
theorem many_up {H : Hp} {x : V} {b : Bool} (m : Int) (h : TStr H x b) : ((match b with | true => upTo (zof x) m | false => false) = (decide ((1 : Int) ≤ many x b) && decide (many x b ≤ m))) := by
  unfold many upTo
  cases b with
  | false => rfl
  | true =>
    rw [Bool.true_and, all_kn]
    cases e : (zof x).cps.toList.all sgn with
    | true => simp
    | false => simp
def spRight : Sp := fun vs H Q _ => ∃ x b, vs = [x, .str KNOWN] ∧ TStr H x b ∧ RetV (.bl true) H Q
abbrev s__law_right : Stmt := top 12
abbrev sc__law_right_N : List Str := ["_law_thing", "_law_known", "_law_many", "_law_one", "_law_due"]
theorem sc__law_right : FnScope sc__law_right_N ["_law_thing", "_law_known"] (defScope s__law_right) := ⟨rfl, rfl, rfl, by decide +kernel, rfl, by decide +kernel, by decide +kernel⟩
section
variable {P : Program} {w : World} {K : Fg} {mg : Str → Option Value} {base : Heap}
theorem sp_sg {H : Hp} {x : V} {b : Bool} (h : TStr H x b) : SpV spSg ([x] ++ []) H (.bl (decide (many x b = 1))) := fun H1 e Q q E => by
  refine ⟨x, rfl, ?_⟩
  have e1 := many_sg h
  cases b with
  | true =>
    obtain ⟨ex, hl⟩ := h.eq
    exact .inl ⟨zof x, ex, by omega, by rw [show isSg (zof x) = _ from e1]; exact q H1 (Ex.refl _)⟩
  | false =>
    cases h with
    | o h => exact .inr ⟨h.same e, by rw [show false = _ from e1]; exact q H1 (Ex.refl _)⟩
theorem sp_up {H : Hp} {x : V} {b : Bool} (m : Int) (h : TStr H x b) : SpV (spUpTo m) ([x] ++ []) H (.bl (decide ((1 : Int) ≤ many x b) && decide (many x b ≤ m))) := fun H1 e Q q E => by
  refine ⟨x, rfl, ?_⟩
  have e1 := many_up m h
  cases b with
  | true =>
    obtain ⟨ex, hl⟩ := h.eq
    exact .inl ⟨zof x, ex, by omega, fun H' e' => by rw [show upTo (zof x) m = _ from e1]; exact q H' e'⟩
  | false =>
    cases h with
    | o h => exact .inr ⟨h.same e, by rw [show false = _ from e1]; exact q H1 (Ex.refl _)⟩
theorem ok__law_right {f f1 f2 f3 : Addr} {fd fd1 fd2 fd3 : FuncData} {k : Nat} (F : Fun K "_law_right" "_law_right" s__law_right f fd) (T : Txt K mg) (C_is_sign : Cal P w K mg base CX0 k "is_sign" ["thing"] spSg f1 fd1)
    (C_is_word : Cal P w K mg base CX0 k "is_word" ["thing"] (spUpTo 40) f2 fd2) (C_is_name : Cal P w K mg base CX0 k "is_name" ["thing"] (spUpTo 12) f3 fd3) :
    FnG P w K mg base CX0 (k + 1) f fd ["_law_thing", "_law_known"] spRight := by
  refine okG F sc__law_right (fun vs H Q E h => ?_) (fun cdv A outer s H vs Q E hG hr h => ?_)
  · obtain ⟨x, b, rfl, _⟩ := h
    rfl
  · obtain ⟨x, b, rfl, hx, q⟩ := h
    refine ⟨_, (pss_cons (ps_set (i := 2) sc__law_right.nd rfl (Or.inl rfl) (pe_ifExp (PW.pt (pw_and (pt_val (pe_callB call_isi (by rfl) T.b_isinstance (by decide +kernel) (pa_cons (pv 0) (pa_cons (pe_bltn (v := .ty "str") (by rfl) T.b_str (by decide +kernel) rfl) pa_nil)))) (pw_and1 (pt_val (pe_callB (cr_all rfl) (by rfl) T.b_all (by decide +kernel) (pa_cons (pe_lc (own := [("_law_one", 3)]) (g := gName 3) (tt := tYes) rfl sc__law_right.nd (pi_str (pv 0)) (blkOk_by (own := [("_law_one", 3)]) (N := sc__law_right_N) (sc := defScope s__law_right) (by decide +kernel)) (fun _ _ _ _ _ => pg_name (i := 3) sc__law_right.nd rfl (Or.inl rfl)) (fun _ _ _ _ _ => pts_nil) (fun _ _ _ _ _ => (pe_cmpR op_in_sign (pv 3) (pv 1) (by rfl)))) pa_nil)))))) (pe_callB call_len_str (by rfl) T.b_len PySem.boot_len (pa_cons (pv 0) pa_nil)) pe_int))
      (pss_cons (ps_set (i := 4) sc__law_right.nd rfl (Or.inl rfl) (pe_lstS (pa_cons (pe_cmpR op_eq (pv 2) pe_int (nomark _)) (pa_cons (pe_chain op_le op_le pe_int (pv 2) pe_int) (pa_cons (pe_chain op_le op_le pe_int (pv 2) pe_int) pa_nil)))))
      (pss_one (ps_ret (pe_cmpR op_eq (pe_callB (call_repr hG hr.units) (by rfl) T.b_repr (by decide +kernel) (pa_cons (pe_lstS (pa_cons (pe_call C_is_sign.ok hr (by rfl) C_is_sign.mg C_is_sign.kp C_is_sign.b .nil pass0 (pa_cons (pv 0) pa_nil)) (pa_cons (pe_call C_is_word.ok hr (by rfl) C_is_word.mg C_is_word.kp C_is_word.b .nil pass0 (pa_cons (pv 0) pa_nil)) (pa_cons (pe_call C_is_name.ok hr (by rfl) C_is_name.mg C_is_name.kp C_is_name.b .nil pass0 (pa_cons (pv 0) pa_nil)) pa_nil)))) pa_nil)) (pe_callB (call_repr hG hr.units) (by rfl) T.b_repr (by decide +kernel) (pa_cons (pv 4) pa_nil)) (nomark _)))))), ?_⟩
    refine q_asg (v := .int (many x b)) (ev_if (et_and (et_B (ev_isiX (ev_var rfl) hx)) (b := (zof x).cps.toList.all kn) fun hb => ?_) (fun hb => ?_) fun hb => ?_) fun H1 e1 => ?_
    · subst hb
      obtain ⟨ex, hl⟩ := hx.eq
      exact et_B (ev_allS kn (ev_is (ev_var rfl) ex) (by omega) (fun _ => rfl) fun c H2 e2 m => ev_op (ev_var rfl) (ev_var rfl) rv_inS)
    · obtain ⟨rfl, hb2⟩ := (Bool.and_eq_true _ _).mp hb
      obtain ⟨ex, hl⟩ := hx.eq
      exact ev_is (ev_lenS (ev_is (ev_var rfl) ex) (by omega)) (by unfold many; rw [hb, if_pos rfl])
    · exact ev_is ev_c (by unfold many; rw [hb]; rfl)
    have hx1 := hx.same e1
    refine q_asgM (xs := [.bl (decide (many x b = 1)), .bl (decide ((1 : Int) ≤ many x b) && decide (many x b ≤ 40)), .bl (decide ((1 : Int) ≤ many x b) && decide (many x b ≤ 12))])
      (em_lst (ea_cons (ev_eqI (ev_var rfl) ev_c) (ea_cons (ev_chain ev_c (ev_var rfl) ev_c) (ea_cons (ev_chain ev_c (ev_var rfl) ev_c) ea_nil))) (show 3 ≤ 100000 by decide)) fun p H2 hp np e2 h2 => ?_
    have hx2 := hx1.same e2
    let bs := [decide (many x b = 1), decide ((1 : Int) ≤ many x b) && decide (many x b ≤ 40), decide ((1 : Int) ≤ many x b) && decide (many x b ≤ 12)]
    refine s_ret (ev_op (ev_reprL (ds := bs.map PyData.bool) (em_lst (ea_cons (ev_call (ea_cons (ev_var rfl) ea_nil) (sp_sg hx2)) (ea_cons (ev_call (ea_cons (ev_var rfl) ea_nil) (sp_up 40 hx2)) (ea_cons (ev_call (ea_cons (ev_var rfl) ea_nil) (sp_up 12 hx2)) ea_nil))) (show 3 ≤ 100000 by decide)) (dx_bools bs) (fit_bools bs (show 3 ≤ 1000 by decide)))
      (ev_repr (d := .list (bs.map PyData.bool)) (ev_var rfl) (.lst np (sq_of h2) (dx_bools bs)) (fit_bools bs (show 3 ≤ 1000 by decide))) (rv_eq rfl)) fun H3 e3 => ?_
    rw [decide_eq_true rfl]
    exact q H3 ((e1.trans e2).trans e3)
end
/-! ### the law -/
def spLaw (K : Fg) : Sp := fun vs H Q _ => ∃ (a : Addr) (ns : List Int), vs = [.ref a] ∧ SqL K H a (ns.map V.int) ∧ ns.length ≤ 63 ∧ ∀ H', Q (.bl true) H'
abbrev s_law : Stmt := top 13
abbrev sc_law_N : List Str := ["_law_script", "_law_known", "_law_others", "_law_sign", "_law_at", "_law_bag_here", "_law_many", "_law_word", "_law_k", "_law_spot", "_law_bent", "_law_thing", "_law_text"]
theorem sc_law : FnScope sc_law_N ["_law_script"] (defScope s_law) := ⟨rfl, rfl, rfl, by decide +kernel, rfl, by decide +kernel, by decide +kernel⟩
theorem known_lo : Lo KNOWN 69 := lo_by (by decide +kernel)
theorem others_lo : Lo OTHERS 26 := lo_by (by decide +kernel)
section
variable {P : Program} {w : World} {K : Fg} {mg : Str → Option Value} {base : Heap}
theorem sp_right {H : Hp} {x : V} {b : Bool} (h : TStr H x b) : SpV spRight ([x, .str KNOWN] ++ []) H (.bl true) := fun H1 e Q q _ => ⟨x, b, rfl, h.same e, q⟩
theorem ok_law {f f1 f2 f3 f4 : Addr} {fd fd1 fd2 fd3 fd4 : FuncData} {k : Nat} (F : Fun K "law" "law" s_law f fd) (T : Txt K mg)
    (C__law_bag : Cal P w K mg base CX0 k "_law_bag" ["_law_script", "_law_at"] (spBag K) f1 fd1)
    (C__law_take : Cal P w K mg base CX0 k "_law_take" ["_law_bag_here", "_law_many"] spTake f2 fd2)
    (C__law_any : Cal P w K mg base CX0 k "_law_any" ["_law_bag_here"] (spAny K) f3 fd3)
    (C__law_right : CalG P w K mg base CX0 k "_law_right" ["_law_thing", "_law_known"] spRight f4 fd4) :
    FnG P w K mg base CX0 (k + 1) f fd ["_law_script"] (spLaw K) := by
  refine okG F sc_law (fun vs H Q E h => ?_) (fun cdv A outer s H vs Q E hG hr h => ?_)
  · obtain ⟨a, ns, rfl, _⟩ := h
    rfl
  · obtain ⟨a, ns, rfl, hS, hl, q⟩ := h
    refine ⟨_, (pss_cons (ps_set (i := 1) sc_law.nd rfl (Or.inr rfl) pe_str)
      (pss_cons (ps_set (i := 2) sc_law.nd rfl (Or.inl rfl) pe_str)
      (pss_cons (ps_if (PW.pt (pw_or (pt_cmpR op_ne (pe_callB call_len_str (by rfl) T.b_len PySem.boot_len (pa_cons (pv 1) pa_nil)) pe_int (nomark _)) (pw_or1 (pt_not (pt_val (pe_callB (cr_all rfl) (by rfl) T.b_all (by decide +kernel) (pa_cons (pe_lc (own := [("_law_sign", 3)]) (g := gName 3) (tt := tYes) rfl sc_law.nd (pi_str (pe_op op_add_str (pe_op op_add_str (pv 1) (pv 2)) pe_str)) (blkOk_by (own := [("_law_sign", 3)]) (N := sc_law_N) (sc := defScope s_law) (by decide +kernel)) (fun _ _ _ _ _ => pg_name (i := 3) sc_law.nd rfl (Or.inl rfl)) (fun _ _ _ _ _ => pts_nil) (fun _ _ _ _ _ => (pe_callG C__law_right.ok hG hr (by rfl) C__law_right.mg C__law_right.kp C__law_right.b .nil pass0 (pa_cons (pv 3) (pa_cons (pv 1) pa_nil))))) pa_nil))))))) (pss_one (ps_ret pe_bl)) pss_nil)
      (pss_cons (ps_for PassesOwn.never rfl (pi_range1 (by rfl) T.b_range (pa_cons (pe_callB (call_max2 rfl) (by rfl) T.b_max (by decide +kernel) (pa_cons pe_int (pa_cons (pe_callB (call_min2 rfl) (by rfl) T.b_min (by decide +kernel) (pa_cons pe_int (pa_cons (pe_callB call_len_seq (by rfl) T.b_len PySem.boot_len (pa_cons (pv 0) pa_nil)) pa_nil))) pa_nil))) pa_nil)) (pg_name (i := 4) sc_law.nd rfl (Or.inl rfl)) (pss_cons (ps_set (i := 5) sc_law.nd rfl (Or.inr rfl) (pe_call C__law_bag.ok hr (by rfl) C__law_bag.mg C__law_bag.kp C__law_bag.b .nil pass0 (pa_cons (pv 0) (pa_cons (pv 4) pa_nil))))
      (pss_one (ps_for PassesOwn.never rfl (pi_tup (pe_tup (pa_cons pe_int (pa_cons pe_int (pa_cons pe_int (pa_cons pe_int (pa_cons (pe_call C__law_take.ok hr (by rfl) C__law_take.mg C__law_take.kp C__law_take.b .nil pass0 (pa_cons (pv 5) (pa_cons pe_int pa_nil))) pa_nil))))))) (pg_name (i := 6) sc_law.nd rfl (Or.inl rfl)) (pss_cons (ps_set (i := 7) sc_law.nd rfl (Or.inl rfl) (pe_join pe_str (pe_lc (own := [("_law_k", 8)]) (g := gName 8) (tt := tYes) rfl sc_law.nd (pi_range1 (by rfl) T.b_range (pa_cons (pv 6) pa_nil)) (blkOk_by (own := [("_law_k", 8)]) (N := sc_law_N) (sc := defScope s_law) (by decide +kernel)) (fun _ _ _ _ _ => pg_name (i := 8) sc_law.nd rfl (Or.inl rfl)) (fun _ _ _ _ _ => pts_nil) (fun _ _ _ _ _ => (pe_ix ix_str (pv 1) (pe_call C__law_take.ok hr (by rfl) C__law_take.mg C__law_take.kp C__law_take.b .nil pass0 (pa_cons (pv 5) (pa_cons pe_int pa_nil))) (fun _ _ => rfl))))))
      (pss_cons (ps_set (i := 9) sc_law.nd rfl (Or.inl rfl) (pe_call C__law_take.ok hr (by rfl) C__law_take.mg C__law_take.kp C__law_take.b .nil pass0 (pa_cons (pv 5) (pa_cons (pe_op op_add (pe_callB call_len_str (by rfl) T.b_len PySem.boot_len (pa_cons (pv 7) pa_nil)) pe_int) pa_nil))))
      (pss_cons (ps_set (i := 10) sc_law.nd rfl (Or.inl rfl) (pe_op op_add_str (pe_op op_add_str (pe_slice sl_str (pv 7) po_none (po_some (pv 9))) (pe_ix ix_str (pv 2) (pe_call C__law_take.ok hr (by rfl) C__law_take.mg C__law_take.kp C__law_take.b .nil pass0 (pa_cons (pv 5) (pa_cons (pe_callB call_len_str (by rfl) T.b_len PySem.boot_len (pa_cons (pv 2) pa_nil)) pa_nil))) (fun _ _ => rfl))) (pe_slice sl_str (pv 7) (po_some (pv 9)) po_none)))
      (pss_one (ps_for PassesOwn.never rfl (pi_tup (pe_tup (pa_cons (pv 7) (pa_cons (pv 10) (pa_cons (pe_slice sl_str (pv 7) po_none (po_some (pv 9))) (pa_cons (pe_slice sl_str (pv 7) (po_some (pv 9)) po_none) (pa_cons (pe_lstS (pa_cons (pv 7) pa_nil)) (pa_cons (pe_tup (pa_cons (pv 7) pa_nil)) (pa_cons (pe_call C__law_any.ok hr (by rfl) C__law_any.mg C__law_any.kp C__law_any.b .nil pass0 (pa_cons (pv 5) pa_nil)) pa_nil))))))))) (pg_name (i := 11) sc_law.nd rfl (Or.inl rfl)) (pss_cons (ps_set (i := 12) sc_law.nd rfl (Or.inl rfl) (pe_callB (call_repr hG hr.units) (by rfl) T.b_repr (by decide +kernel) (pa_cons (pv 11) pa_nil)))
      (pss_one (ps_if (PW.pt (pw_or (pt_not (pt_val (pe_callG C__law_right.ok hG hr (by rfl) C__law_right.mg C__law_right.kp C__law_right.b .nil pass0 (pa_cons (pv 11) (pa_cons (pv 1) pa_nil))))) (pw_or1 (pt_cmpR op_ne (pe_callB (call_repr hG hr.units) (by rfl) T.b_repr (by decide +kernel) (pa_cons (pv 11) pa_nil)) (pv 12) (nomark _))))) (pss_one (ps_ret pe_bl)) pss_nil))))))))))))
      (pss_one (ps_ret pe_bl)))))), ?_⟩
    refine q_asg (ev_is ev_c (show V.str _ = V.str KNOWN from rfl)) fun H1 e1 => ?_
    refine q_asg (ev_is ev_c (show V.str _ = V.str OTHERS by decide +kernel)) fun H2 e2 => ?_
    refine q_when (b := false) (et_is (et_or (et_test (ev_neI (ev_lenS (ev_var rfl) (by decide +kernel)) ev_c)) fun _ => et_not (et_B (ev_allS (fun _ => true) (ev_addS (ev_addS (ev_var rfl) (ev_var rfl) (by decide +kernel)) ev_c (by decide +kernel)) (by decide +kernel) (fun _ => rfl)
      fun c H3 e3 m => ev_call (ea_cons (ev_var rfl) (ea_cons (ev_var rfl) ea_nil)) (sp_right (.s _ (show 1 ≤ 1000 by decide)))))) (by decide +kernel)) (fun z => nomatch z) fun _ H3 e3 => ?_
    have hN := turns_le (ns.length : Int)
    have eS := ((e1.trans e2).trans e3)
    refine q_forR1 (n := turnsN (ns.length : Int)) (ea_cons (ev_is (ev_max2 ev_c (ev_min2 ev_c (ev_lenL (ev_var rfl) (ex_l eS hS)))) (by rw [List.length_map]; rfl)) ea_nil) (by omega)
      (fun _ σ' H' => ∃ y4 y5 y6 y7 y9 y10 y11 y12, σ' = [some (.ref a), some (.str KNOWN), some (.str OTHERS), none, y4, y5, y6, y7, none, y9, y10, y11, y12] ∧ Same H H')
      (fun H4 e4 => ⟨none, none, none, none, none, none, none, none, rfl, eS.trans e4⟩) ?_ (fun σ' H' h => ?_)
    · rintro i σ' H4 hi ⟨y4, y5, y6, y7, y9, y10, y11, y12, rfl, s4⟩
      -- the bag
      refine ⟨_, rfl, _, rfl, a, ns, i, rfl, s4.seq hS, by omega, fun b H5 nb hB sB => ?_⟩
      have d5 : Dr H4 b 0 H5 := ⟨sB, nb, hB⟩
      -- the sizes
      refine ⟨_, rfl, b, 60, 0, rfl, hB, by decide, by decide, by decide, fun r H6 hr0 hr1 hB6 hb6 => ?_⟩
      have d6 := d5.take hB6 hb6
      refine ⟨(show 5 ≤ sizeLine by decide), fun t nt => ⟨t, rfl, ⟨_, st_of upd_same⟩, ?_⟩⟩
      have d7 := d6.new (o := .tup [.int 12, .int 13, .int 40, .int 41, .int r]) nt
      refine for_it walk_tup (fun j σ' H' => ∃ y4 y6 y7 y9 y10 y11 y12, σ' = [some (.ref a), some (.str KNOWN), some (.str OTHERS), none, y4, some (.ref b), y6, y7, none, y9, y10, y11, y12] ∧ Dr (upd H4 t (.tup [.int 12, .int 13, .int 40, .int 41, .int r])) b (1 + 100 * j) H')
        ⟨_, y6, y7, y9, y10, y11, y12, rfl, d7⟩ (fun j σ' H' _ ⟨_, _, _, _, _, _, _, _, d⟩ => st_of (d.same _ _ upd_same)) ?_ ?_
      · rintro j x σ' H7 H7' hj ⟨y4, y6, y7, y9, y10, y11, y12, rfl, d⟩ ⟨rfl, hx⟩
        have hj5 : j < 5 := hj
        obtain ⟨m, rfl, hm⟩ : ∃ m : Nat, x = .int (m : Int) ∧ m ≤ 60 := by
          have hr : (∃ m : Nat, V.int r = .int (m : Int) ∧ m ≤ 60) := ⟨r.toNat, by rw [show ((r.toNat : Nat) : Int) = r by omega], by omega⟩
          have all : ∀ v ∈ ([.int 12, .int 13, .int 40, .int 41, .int r] : List V), ∃ m : Nat, v = .int (m : Int) ∧ m ≤ 60 :=
            List.forall_mem_cons.mpr ⟨⟨12, rfl, by decide⟩, List.forall_mem_cons.mpr ⟨⟨13, rfl, by decide⟩, List.forall_mem_cons.mpr ⟨⟨40, rfl, by decide⟩, List.forall_mem_cons.mpr ⟨⟨41, rfl, by decide⟩, List.forall_mem_cons.mpr ⟨hr, fun _ h => nomatch h⟩⟩⟩⟩⟩
          exact all x (List.mem_of_getElem? hx)
        generalize hM : upd H4 t (.tup [.int 12, .int 13, .int 40, .int 41, .int r]) = M at d
        -- the word
        refine ⟨⟨_, rfl⟩, _, rfl, (m : Int), rfl, by omega, by omega, fun D nD => ?_⟩
        have DM := d.free nD
        have Db := d.ne nD
        refine lc_rng (n := m) (fun i xs G => Dr M b (1 + 100 * j + i) G ∧ ∃ ys : List Str, xs = ys.map V.str ∧ ∀ y ∈ ys, Lo y 1) (by omega) ⟨d.mut DM Db, [], rfl, fun _ h => nomatch h⟩ ?_ ?_
        · rintro i xs G R hi ⟨dG, ys, rfl, hy⟩ hlen hGD k
          refine ⟨_, rfl, _, rfl, b, 69, _, rfl, dG.bag, by omega, by decide, by decide, fun r1 G1 h0 h1 hb ht => ?_⟩
          obtain ⟨c, hc, hcm⟩ := atI_some (xs := KNOWN.cps.toList) h0 (by rw [show (KNOWN.cps.toList.length : Int) = 69 by decide +kernel]; exact h1)
          have dG1 := dG.take hb ht
          refine ⟨KNOWN, r1, c, rfl, rfl, (by decide +kernel), hc, k _ _ ((ht D Db).trans hGD) ⟨(dG1.mut DM Db).up (by omega), ys ++ [⟨#[c]⟩], by rw [List.map_append]; rfl, fun y hy' => ?_⟩⟩
          rcases List.mem_append.mp hy' with h | h
          · exact hy y h
          · rw [List.mem_singleton.mp h]
            exact known_lo.sign hcm
        · rintro xs G hlen hGD ⟨dG, ys, rfl, hy⟩
          rw [List.length_map] at hlen
          have hsum := sum_le (m := 1) fun y h => (hy y h).len
          have hE : (Str.ofString "") = (⟨#[]⟩ : Str) := by decide +kernel
          refine ⟨_, D, ys, rfl, rfl, .inl (SqL.of hGD), by rw [hE, show (⟨#[]⟩ : Str).length = 0 from rfl, Nat.mul_zero]; omega, ?_⟩
          have hw : Lo (Txt.join (Str.ofString "") ys) 60 := by
            rw [hE]
            exact (lo_join (n := m) hy (by omega)).up (by omega)
          generalize Txt.join (Str.ofString "") ys = word at hw
          have wl := hw.len
          have wl2 : word.length ≤ sizeLine := sz_of (Nat.le_trans wl (by decide))
          -- spot
          refine ⟨_, rfl, _, rfl, _, rfl, wl2, _, _, rfl, rfl, b, (word.length : Int) + 1, _, rfl, dG.bag, by omega, by omega, by omega, fun r2 G2 h20 h21 hb2 ht2 => ?_⟩
          have d2 := dG.take hb2 ht2
          -- bent
          refine ⟨_, rfl, _, rfl, r2, rfl, _, rfl, wl2, ?_⟩
          refine ⟨_, rfl, _, rfl, _, rfl, _, rfl, (by decide +kernel), b, (OTHERS.length : Int), _, rfl, d2.bag, by omega, by decide +kernel, by decide +kernel, fun r3 G3 h30 h31 hb3 ht3 => ?_⟩
          have d3 := d2.take hb3 ht3
          obtain ⟨c, hc, hcm⟩ := atI_some (xs := OTHERS.cps.toList) h30 (by rw [← len_str]; exact h31)
          refine ⟨OTHERS, r3, c, rfl, rfl, (by decide +kernel), hc, ?_⟩
          have lc1 := hw.cut none (some r2)
          have lc2 := hw.cut (some r2) none
          have lb1 := lc1.app (others_lo.sign hcm)
          have lb := (lb1.app lc2).up (m := 1000) (by decide)
          refine ⟨_, _, rfl, rfl, sz_of (Nat.le_trans (Nat.add_le_add lc1.len (Nat.le_refl 1)) (by decide)), _, rfl, _, rfl, r2, rfl, _, rfl, wl2, _, _, rfl, rfl, sz_of (Nat.le_trans (Nat.add_le_add lb1.len lc2.len) (by decide)), ?_⟩
          generalize cutS word none (some r2) ++ { cps := #[c] } ++ cutS word (some r2) none = bent at lb
          -- the things
          refine ⟨_, rfl, _, rfl, _, rfl, _, rfl, r2, rfl, _, rfl, wl2, _, rfl, _, rfl, r2, rfl, _, rfl, wl2, _, rfl, (show 1 ≤ sizeLine by decide), fun p1 n1 ne1 => ⟨_, rfl, (show 1 ≤ sizeLine by decide), fun p2 n2 => ?_⟩⟩
          have d4 := (d3.new (o := .lst [.str word]) n1).new (o := .tup [.str word]) n2
          have m4 := (d3.on (same_new (o := .lst [.str word]) n1)).on (same_new (o := .tup [.str word]) n2)
          refine ⟨_, rfl, b, _, rfl, d4.bag, by omega, fun v G4 hv hb4 ht4 => ⟨(show 7 ≤ sizeLine by decide), fun t2 nt2 => ⟨t2, rfl, ⟨_, st_of upd_same⟩, ?_⟩⟩⟩
          have d5 := d4.kb hb4 ht4
          have s6 := same_new (o := .tup [.str word, .str bent, .str (cutS word none (some r2)), .str (cutS word (some r2) none), .ref p1, .ref p2, v]) nt2
          have m6 := (m4.kb hb4 ht4).on s6
          have k1 : G4 p1 = some (.lst [.str word]) := d5.same _ _ ((upd_ne (ne_of_none upd_same n2)).trans upd_same)
          have k2 : G4 p2 = some (.tup [.str word]) := d5.same _ _ upd_same
          have up : ∀ {z : Str} {n : Nat}, Lo z n → n ≤ 1000 → Good K G4 (.str z) := fun h le => (h.up le).good
          have fw : Fit (.str word) := hw.fit (by decide)
          have lowW : PyData.leavesShort 40 (.str word) = true := fw.lv
          have fl : Fit (.list [.str word]) := ⟨by simp [PyData.showable, PyData.showableAll], by simpa [PyData.leavesShort, PyData.leavesShortAll] using lowW, by simp only [PyData.bulk, PyData.bulkAll]; have : word.cps.size = word.length := rfl; omega, by simp [PyData.depth, PyData.depthAll]⟩
          have ft : Fit (.tuple [.str word]) := ⟨by simp [PyData.showable, PyData.showableAll], by simpa [PyData.leavesShort, PyData.leavesShortAll] using lowW, by simp only [PyData.bulk, PyData.bulkAll]; have : word.cps.size = word.length := rfl; omega, by simp [PyData.depth, PyData.depthAll]⟩
          have all : ∀ y ∈ ([.str word, .str bent, .str (cutS word none (some r2)), .str (cutS word (some r2) none), .ref p1, .ref p2, v] : List V), Good K G4 y := by
            refine List.forall_mem_cons.mpr ⟨up hw (by decide), List.forall_mem_cons.mpr ⟨up lb (by decide), List.forall_mem_cons.mpr ⟨up lc1 (by decide), List.forall_mem_cons.mpr ⟨up lc2 (by decide), ?_⟩⟩⟩⟩
            refine List.forall_mem_cons.mpr ⟨good_o (.lst ne1 (sq_of k1) (.cons (.str _) .nil)) fl (.lst k1), List.forall_mem_cons.mpr ⟨good_o (.tup (st_of k2) (.cons (.str _) .nil)) ft (.tup k2), List.forall_mem_cons.mpr ⟨hv, fun _ h => nomatch h⟩⟩⟩
          refine for_it walk_tup (fun _ σ' H' => ∃ y11 y12, σ' = [some (.ref a), some (.str KNOWN), some (.str OTHERS), none, y4, some (.ref b), some (.int (m : Int)), some (.str word), none, some (.int r2), some (.str bent), y11, y12] ∧
            Same (upd G4 t2 (.tup [.str word, .str bent, .str (cutS word none (some r2)), .str (cutS word (some r2) none), .ref p1, .ref p2, v])) H') ⟨y11, y12, rfl, Same.refl _⟩ (fun _ σ' H' _ ⟨_, _, _, s⟩ => st_of (s _ _ upd_same)) ?_ ?_
          · rintro l x σ' H8 H8' hl8 ⟨y11, y12, rfl, s8⟩ ⟨rfl, hx8⟩
            obtain ⟨dd, tb, hd, hf, ht⟩ := (all x (List.mem_of_getElem? hx8)).same (s6.trans s8)
            refine q_asg (ev_repr (ev_var rfl) hd hf) fun H9 e9 => ?_
            refine s_when (b := false) (et_is (et_or (et_not (et_B (ev_call (ea_cons (ev_var rfl) (ea_cons (ev_var rfl) ea_nil)) (sp_right (ht.same e9))))) fun _ => et_test (ev_neS (ev_repr (ev_var rfl) (hd.same e9) hf) (ev_var rfl))) (by simp)) (fun z => nomatch z) fun _ H10 e10 => ?_
            exact ⟨_, _, rfl, s8.trans (e9.trans e10)⟩
          · rintro σ' H9 ⟨y11, y12, rfl, s9⟩
            subst hM
            exact ⟨_, _, _, _, _, _, _, rfl, (m6.on s9).up (by omega)⟩
      · rintro σ' H9 ⟨y4, y6, y7, y9, y10, y11, y12, rfl, d⟩
        exact ⟨_, _, _, _, _, _, _, _, rfl, s4.trans ((same_new (d6.free nt)).trans d.same)⟩
    · obtain ⟨y4, y5, y6, y7, y9, y10, y11, y12, rfl, _⟩ := h
      exact q _
end
theorem all_mk {l : PySem.W.OpenLaw} {w : World} {K : Fg} {h : Heap} {mg : Str → Option Value} {fa : Addr} (X : K.In h) (G : h.Ns mainGlobals mg) (hfa : mg "law" = some (.ref fa))
    {f__law_bag : Addr} {od_0 an_0 : Option Addr} {sl_0 : Array (Option Value)} {oc_0 kV_0 dc_0 pm_0 cd_0 ct_0 : Value}
    (a__law_bag : PySem.W.nsIn K mainGlobals "_law_bag" = some (some (.ref f__law_bag))) (l__law_bag : K.lookup f__law_bag = some ⟨oc_0, od_0, .func (PySem.W.fnOf "_law_bag" "_law_bag" (defArgs s__law_bag) (defBody s__law_bag) (defScope s__law_bag) .none kV_0 dc_0 pm_0 an_0 cd_0 ct_0), sl_0⟩)
    (c__law_bag : PySem.W.codeIn K cd_0 "_law_bag" = true) (k__law_bag : PySem.W.keepIn K (.ref f__law_bag) = true)
    {f__law_take : Addr} {od_1 an_1 : Option Addr} {sl_1 : Array (Option Value)} {oc_1 kV_1 dc_1 pm_1 cd_1 ct_1 : Value}
    (a__law_take : PySem.W.nsIn K mainGlobals "_law_take" = some (some (.ref f__law_take))) (l__law_take : K.lookup f__law_take = some ⟨oc_1, od_1, .func (PySem.W.fnOf "_law_take" "_law_take" (defArgs s__law_take) (defBody s__law_take) (defScope s__law_take) .none kV_1 dc_1 pm_1 an_1 cd_1 ct_1), sl_1⟩)
    (c__law_take : PySem.W.codeIn K cd_1 "_law_take" = true) (k__law_take : PySem.W.keepIn K (.ref f__law_take) = true)
    {f__law_any : Addr} {od_2 an_2 : Option Addr} {sl_2 : Array (Option Value)} {oc_2 kV_2 dc_2 pm_2 cd_2 ct_2 : Value}
    (a__law_any : PySem.W.nsIn K mainGlobals "_law_any" = some (some (.ref f__law_any))) (l__law_any : K.lookup f__law_any = some ⟨oc_2, od_2, .func (PySem.W.fnOf "_law_any" "_law_any" (defArgs s__law_any) (defBody s__law_any) (defScope s__law_any) .none kV_2 dc_2 pm_2 an_2 cd_2 ct_2), sl_2⟩)
    (c__law_any : PySem.W.codeIn K cd_2 "_law_any" = true) (k__law_any : PySem.W.keepIn K (.ref f__law_any) = true)
    {f__law_right : Addr} {od_3 an_3 : Option Addr} {sl_3 : Array (Option Value)} {oc_3 kV_3 dc_3 pm_3 cd_3 ct_3 : Value}
    (a__law_right : PySem.W.nsIn K mainGlobals "_law_right" = some (some (.ref f__law_right))) (l__law_right : K.lookup f__law_right = some ⟨oc_3, od_3, .func (PySem.W.fnOf "_law_right" "_law_right" (defArgs s__law_right) (defBody s__law_right) (defScope s__law_right) .none kV_3 dc_3 pm_3 an_3 cd_3 ct_3), sl_3⟩)
    (c__law_right : PySem.W.codeIn K cd_3 "_law_right" = true) (k__law_right : PySem.W.keepIn K (.ref f__law_right) = true)
    {f_law : Addr} {od_4 an_4 : Option Addr} {sl_4 : Array (Option Value)} {oc_4 kV_4 dc_4 pm_4 cd_4 ct_4 : Value}
    (a_law : PySem.W.nsIn K mainGlobals "law" = some (some (.ref f_law))) (l_law : K.lookup f_law = some ⟨oc_4, od_4, .func (PySem.W.fnOf "law" "law" (defArgs s_law) (defBody s_law) (defScope s_law) .none kV_4 dc_4 pm_4 an_4 cd_4 ct_4), sl_4⟩)
    (c_law : PySem.W.codeIn K cd_4 "law" = true) (k_law : PySem.W.keepIn K (.ref f_law) = true)
    {f_is_sign : Addr} {od_5 an_5 : Option Addr} {sl_5 : Array (Option Value)} {oc_5 kV_5 dc_5 pm_5 cd_5 ct_5 : Value}
    (a_is_sign : PySem.W.nsIn K mainGlobals "is_sign" = some (some (.ref f_is_sign))) (l_is_sign : K.lookup f_is_sign = some ⟨oc_5, od_5, .func (PySem.W.fnOf "is_sign" "is_sign" (defArgs s_is_sign) (defBody s_is_sign) (defScope s_is_sign) .none kV_5 dc_5 pm_5 an_5 cd_5 ct_5), sl_5⟩)
    (c_is_sign : PySem.W.codeIn K cd_5 "is_sign" = true) (k_is_sign : PySem.W.keepIn K (.ref f_is_sign) = true)
    {f_is_word : Addr} {od_6 an_6 : Option Addr} {sl_6 : Array (Option Value)} {oc_6 kV_6 dc_6 pm_6 cd_6 ct_6 : Value}
    (a_is_word : PySem.W.nsIn K mainGlobals "is_word" = some (some (.ref f_is_word))) (l_is_word : K.lookup f_is_word = some ⟨oc_6, od_6, .func (PySem.W.fnOf "is_word" "is_word" (defArgs s_is_word) (defBody s_is_word) (defScope s_is_word) .none kV_6 dc_6 pm_6 an_6 cd_6 ct_6), sl_6⟩)
    (c_is_word : PySem.W.codeIn K cd_6 "is_word" = true) (k_is_word : PySem.W.keepIn K (.ref f_is_word) = true)
    {f_is_name : Addr} {od_7 an_7 : Option Addr} {sl_7 : Array (Option Value)} {oc_7 kV_7 dc_7 pm_7 cd_7 ct_7 : Value}
    (a_is_name : PySem.W.nsIn K mainGlobals "is_name" = some (some (.ref f_is_name))) (l_is_name : K.lookup f_is_name = some ⟨oc_7, od_7, .func (PySem.W.fnOf "is_name" "is_name" (defArgs s_is_name) (defBody s_is_name) (defScope s_is_name) .none kV_7 dc_7 pm_7 an_7 cd_7 ct_7), sl_7⟩)
    (c_is_name : PySem.W.codeIn K cd_7 "is_name" = true) (k_is_name : PySem.W.keepIn K (.ref f_is_name) = true)
    {f__is_word_up_to : Addr} {od_8 an_8 : Option Addr} {sl_8 : Array (Option Value)} {oc_8 kV_8 dc_8 pm_8 cd_8 ct_8 : Value}
    (a__is_word_up_to : PySem.W.nsIn K mainGlobals "_is_word_up_to" = some (some (.ref f__is_word_up_to))) (l__is_word_up_to : K.lookup f__is_word_up_to = some ⟨oc_8, od_8, .func (PySem.W.fnOf "_is_word_up_to" "_is_word_up_to" (defArgs s__is_word_up_to) (defBody s__is_word_up_to) (defScope s__is_word_up_to) .none kV_8 dc_8 pm_8 an_8 cd_8 ct_8), sl_8⟩)
    (c__is_word_up_to : PySem.W.codeIn K cd_8 "_is_word_up_to" = true) (k__is_word_up_to : PySem.W.keepIn K (.ref f__is_word_up_to) = true)
    (z_isinstance : PySem.W.nsIn K mainGlobals "isinstance" = some none)
    (z_str : PySem.W.nsIn K mainGlobals "str" = some none)
    (z_len : PySem.W.nsIn K mainGlobals "len" = some none)
    (z_all : PySem.W.nsIn K mainGlobals "all" = some none)
    (z_abs : PySem.W.nsIn K mainGlobals "abs" = some none)
    (z_repr : PySem.W.nsIn K mainGlobals "repr" = some none)
    (z_range : PySem.W.nsIn K mainGlobals "range" = some none)
    (z_max : PySem.W.nsIn K mainGlobals "max" = some none)
    (z_min : PySem.W.nsIn K mainGlobals "min" = some none)
    {t_SIGNS : Tok} (g_SIGNS : PySem.W.nsIn K mainGlobals "SIGNS" = some (some (.str SIGNS t_SIGNS)))
    {t_LONGEST_WORD : Tok} (g_LONGEST_WORD : PySem.W.nsIn K mainGlobals "LONGEST_WORD" = some (some (.int 40 t_LONGEST_WORD)))
    {t_LONGEST_NAME : Tok} (g_LONGEST_NAME : PySem.W.nsIn K mainGlobals "LONGEST_NAME" = some (some (.int 12 t_LONGEST_NAME)))
    : ∃ fd : FuncData, (∀ (s : Shared) (v : Value), BindsTo s fd ⟨[v], []⟩ [("_law_script", v)]) ∧ ∀ base : Heap, K.In base → base.Ns mainGlobals mg → FnG l.prog w K mg base CX0 6 fa fd ["_law_script"] (spLaw K) := by
  have e := hfa.symm.trans (PySem.W.mg_of X G a_law)
  cases e
  have T : Txt K mg := { b_isinstance := PySem.W.mg_none_of X G z_isinstance, b_str := PySem.W.mg_none_of X G z_str, b_len := PySem.W.mg_none_of X G z_len, b_all := PySem.W.mg_none_of X G z_all, b_abs := PySem.W.mg_none_of X G z_abs, b_repr := PySem.W.mg_none_of X G z_repr, b_range := PySem.W.mg_none_of X G z_range, b_max := PySem.W.mg_none_of X G z_max, b_min := PySem.W.mg_none_of X G z_min, c_SIGNS := ⟨_, PySem.W.mg_of X G g_SIGNS, ⟨t_SIGNS, rfl⟩⟩, c_LONGEST_WORD := ⟨_, PySem.W.mg_of X G g_LONGEST_WORD, ⟨t_LONGEST_WORD, rfl⟩⟩, c_LONGEST_NAME := ⟨_, PySem.W.mg_of X G g_LONGEST_NAME, ⟨t_LONGEST_NAME, rfl⟩⟩ }
  have F__law_bag := fun_mk (st := s__law_bag) l__law_bag c__law_bag k__law_bag
  have b__law_bag := F__law_bag.binds (ps := ["_law_script", "_law_at"]) fun _ _ _ _ _ _ us hl => match us, hl with | [_, _], _ => rfl
  have F__law_take := fun_mk (st := s__law_take) l__law_take c__law_take k__law_take
  have b__law_take := F__law_take.binds (ps := ["_law_bag_here", "_law_many"]) fun _ _ _ _ _ _ us hl => match us, hl with | [_, _], _ => rfl
  have F__law_any := fun_mk (st := s__law_any) l__law_any c__law_any k__law_any
  have b__law_any := F__law_any.binds (ps := ["_law_bag_here"]) fun _ _ _ _ _ _ us hl => match us, hl with | [_], _ => rfl
  have F__law_right := fun_mk (st := s__law_right) l__law_right c__law_right k__law_right
  have b__law_right := F__law_right.binds (ps := ["_law_thing", "_law_known"]) fun _ _ _ _ _ _ us hl => match us, hl with | [_, _], _ => rfl
  have F_law := fun_mk (st := s_law) l_law c_law k_law
  have b_law := F_law.binds (ps := ["_law_script"]) fun _ _ _ _ _ _ us hl => match us, hl with | [_], _ => rfl
  have F_is_sign := fun_mk (st := s_is_sign) l_is_sign c_is_sign k_is_sign
  have b_is_sign := F_is_sign.binds (ps := ["thing"]) fun _ _ _ _ _ _ us hl => match us, hl with | [_], _ => rfl
  have F_is_word := fun_mk (st := s_is_word) l_is_word c_is_word k_is_word
  have b_is_word := F_is_word.binds (ps := ["thing"]) fun _ _ _ _ _ _ us hl => match us, hl with | [_], _ => rfl
  have F_is_name := fun_mk (st := s_is_name) l_is_name c_is_name k_is_name
  have b_is_name := F_is_name.binds (ps := ["thing"]) fun _ _ _ _ _ _ us hl => match us, hl with | [_], _ => rfl
  have F__is_word_up_to := fun_mk (st := s__is_word_up_to) l__is_word_up_to c__is_word_up_to k__is_word_up_to
  have b__is_word_up_to := F__is_word_up_to.binds (ps := ["thing", "most"]) fun _ _ _ _ _ _ us hl => match us, hl with | [_, _], _ => rfl
  refine ⟨PySem.W.fnOf "law" "law" (defArgs s_law) (defBody s_law) (defScope s_law) .none kV_4 dc_4 pm_4 an_4 cd_4 ct_4, fun s v => .of_eq rfl, fun base _ _ => ?_⟩
  have C_take : Cal l.prog w K mg base CX0 1 "_law_take" ["_law_bag_here", "_law_many"] spTake _ _ := ⟨ok__law_take F__law_take, PySem.W.mg_of X G a__law_take, k__law_take, b__law_take⟩
  have C_bag : Cal l.prog w K mg base CX0 1 "_law_bag" ["_law_script", "_law_at"] (spBag K) _ _ := ⟨ok__law_bag F__law_bag T, PySem.W.mg_of X G a__law_bag, k__law_bag, b__law_bag⟩
  have C_up : Cal l.prog w K mg base CX0 1 "_is_word_up_to" ["thing", "most"] spUp _ _ := ⟨ok__is_word_up_to F__is_word_up_to T, PySem.W.mg_of X G a__is_word_up_to, k__is_word_up_to, b__is_word_up_to⟩
  have C_sign : Cal l.prog w K mg base CX0 2 "is_sign" ["thing"] spSg _ _ := ⟨ok_is_sign F_is_sign T, PySem.W.mg_of X G a_is_sign, k_is_sign, b_is_sign⟩
  have C_word : Cal l.prog w K mg base CX0 2 "is_word" ["thing"] (spUpTo 40) _ _ := ⟨ok_is_word F_is_word T C_up, PySem.W.mg_of X G a_is_word, k_is_word, b_is_word⟩
  have C_name : Cal l.prog w K mg base CX0 2 "is_name" ["thing"] (spUpTo 12) _ _ := ⟨ok_is_name F_is_name T C_up, PySem.W.mg_of X G a_is_name, k_is_name, b_is_name⟩
  have C_any : Cal l.prog w K mg base CX0 2 "_law_any" ["_law_bag_here"] (spAny K) _ _ := ⟨ok__law_any F__law_any T C_take, PySem.W.mg_of X G a__law_any, k__law_any, b__law_any⟩
  have C_right : CalG l.prog w K mg base CX0 3 "_law_right" ["_law_thing", "_law_known"] spRight _ _ := ⟨ok__law_right F__law_right T C_sign C_word C_name, PySem.W.mg_of X G a__law_right, k__law_right, b__law_right⟩
  exact (ok_law (k := 5) F_law T (C_bag.up (by decide)) (C_take.up (by decide)) (C_any.up (by decide)) (C_right.up (by decide))).up (by decide)
end Nm
open PySem PySem.W PyProof.Rows in
set_option maxRecDepth 100000 in
set_option maxHeartbeats 0 in
theorem PySem.Challenge.cw_namesone_k01_signs_words_names_holds : PySem.Challenge.rw_namesone_k01_signs_words_names.Holds := by
  w_on; o_law; k_head; (case hw => w_witness2)
  k_fill
  refine Nm.walk_G (l := PySem.Challenge.rw_namesone_k01_signs_words_names) (n := 63) (k := 6) (x := "_law_script") (sp := Nm.spLaw) rfl (by decide) rfl ⟨rfl, by decide, by decide⟩ (fun w h Y => PySem.W.kIn_of Y) ?F (fun _ _ a ns hl _ hS => ⟨a, ns, rfl, hS, hl, fun _ => rfl⟩)
  case F =>
    intro w mg fa h KX G hmg
    refine' Nm.all_mk KX G hmg ?a__law_bag ?l__law_bag ?c__law_bag ?k__law_bag ?a__law_take ?l__law_take ?c__law_take ?k__law_take ?a__law_any ?l__law_any ?c__law_any ?k__law_any ?a__law_right ?l__law_right ?c__law_right ?k__law_right ?a_law ?l_law ?c_law ?k_law ?a_is_sign ?l_is_sign ?c_is_sign ?k_is_sign ?a_is_word ?l_is_word ?c_is_word ?k_is_word ?a_is_name ?l_is_name ?c_is_name ?k_is_name ?a__is_word_up_to ?l__is_word_up_to ?c__is_word_up_to ?k__is_word_up_to ?z_isinstance ?z_str ?z_len ?z_all ?z_abs ?z_repr ?z_range ?z_max ?z_min ?g_SIGNS ?g_LONGEST_WORD ?g_LONGEST_NAME
    (case a__law_bag => k_is)
    (case l__law_bag => k_is)
    (case c__law_bag => k_is)
    (case k__law_bag => k_is)
    (case a__law_take => k_is)
    (case l__law_take => k_is)
    (case c__law_take => k_is)
    (case k__law_take => k_is)
    (case a__law_any => k_is)
    (case l__law_any => k_is)
    (case c__law_any => k_is)
    (case k__law_any => k_is)
    (case a__law_right => k_is)
    (case l__law_right => k_is)
    (case c__law_right => k_is)
    (case k__law_right => k_is)
    (case a_law => k_is)
    (case l_law => k_is)
    (case c_law => k_is)
    (case k_law => k_is)
    (case a_is_sign => k_is)
    (case l_is_sign => k_is)
    (case c_is_sign => k_is)
    (case k_is_sign => k_is)
    (case a_is_word => k_is)
    (case l_is_word => k_is)
    (case c_is_word => k_is)
    (case k_is_word => k_is)
    (case a_is_name => k_is)
    (case l_is_name => k_is)
    (case c_is_name => k_is)
    (case k_is_name => k_is)
    (case a__is_word_up_to => k_is)
    (case l__is_word_up_to => k_is)
    (case c__is_word_up_to => k_is)
    (case k__is_word_up_to => k_is)
    (case z_isinstance => k_is)
    (case z_str => k_is)
    (case z_len => k_is)
    (case z_all => k_is)
    (case z_abs => k_is)
    (case z_repr => k_is)
    (case z_range => k_is)
    (case z_max => k_is)
    (case z_min => k_is)
    (case g_SIGNS => k_is)
    (case g_LONGEST_WORD => k_is)
    (case g_LONGEST_NAME => k_is)




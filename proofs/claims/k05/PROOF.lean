import PyProof.Rows.All
import Wide.All
import OpenK.AllK
import Wide.FinOn
import HandS.ForMost
import HandS.IsInst
import HandS.Walk
import HandS.Evl
import KE.KExcIs
import HandS.More
import HandS.Exc
import HandS.ExcOwn
import HandS.WordsExc
import HandS.ExcInit
import HandS.ExcField
import HandS.Property
import HandS.Star
import PySem.Challenge.RW_namesone_k05_keys
set_option Elab.async false
set_option linter.all false
set_option maxRecDepth 100000
set_option maxHeartbeats 4000000
/-! Our own layer over HandS: callees in one structure, promises that hold where no repr runs around, data with dicts and its repr. -/
namespace Nm
open PySem PySem.Spec PyProof.Rows L2
abbrev Fg := PySem.W.Frag
section
variable {X : Cx}
/-- a constant of the module, its token left open -/
theorem pe_gx {x : Str} {v : V} {pos : Pos} (hg : Gl X x) (hm : ∃ u, X.mg x = some u ∧ RelV v u) (hd : (x == ("__debug__" : Str)) = false := by decide) : PE X (.Name x pos) (tC v) :=
  hm.elim fun _ h => pe_glob hg h.1 h.2 hd
end
/-- a def by its name: it keeps its promise, it stands there, it is bound by its parameters -/
structure Cal (P : Program) (w : World) (K : Fg) (mg : Str → Option Value) (base : Heap) (CX : CXT) (k : Nat) (x : Str) (ps : List Str) (sp : Sp) (f : Addr) (fd : FuncData) : Prop where
  ok : FnOk P w K mg base CX k f fd ps sp
  mg : mg x = some (.ref f)
  kp : PySem.W.keepIn K (.ref f) = true
  b : Binds K fd ps []
/-- a promise that is kept wherever no repr runs around -/
structure FnG (P : Program) (w : World) (K : Fg) (mg : Str → Option Value) (base : Heap) (CX : CXT) (k : Nat) (f : Addr) (fd : FuncData) (ps : List Str) (sp : Sp) : Prop where
  many : ∀ vs H Q E, sp vs H Q E → vs.length = ps.length
  go : ∀ (A : Around) (fr : List Env) (s : Shared) (H : Hp) (ar : Args) (us : List Value) (vs : List V) (Q : VK) (E : XK), A.guards = some [] → Room k A → Env0 P w K mg base A fr s H →
    BindsTo s fd ar (ps.zip us) → Vals vs us → sp vs H Q E → codeAny (model P w) A (.call (.ref f) ar) (CR CX fr P w H s Q E) s
section
variable {P : Program} {w : World} {K : Fg} {mg : Str → Option Value} {base : Heap} {CX : CXT} {k : Nat} {f : Addr} {fd : FuncData} {ps : List Str} {sp : Sp}
theorem FnG.of (F : FnOk P w K mg base CX k f fd ps sp) : FnG P w K mg base CX k f fd ps sp :=
  ⟨F.len, fun A fr s H ar us vs Q E _ => F.run A fr s H ar us vs Q E⟩
theorem FnG.up (F : FnG P w K mg base CX k f fd ps sp) {j : Nat} (h : k ≤ j) : FnG P w K mg base CX j f fd ps sp :=
  ⟨F.many, fun A fr s H ar us vs Q E hG hr => F.go A fr s H ar us vs Q E hG (hr.mono h)⟩
end
structure CalG (P : Program) (w : World) (K : Fg) (mg : Str → Option Value) (base : Heap) (CX : CXT) (k : Nat) (x : Str) (ps : List Str) (sp : Sp) (f : Addr) (fd : FuncData) : Prop where
  ok : FnG P w K mg base CX k f fd ps sp
  mg : mg x = some (.ref f)
  kp : PySem.W.keepIn K (.ref f) = true
  b : Binds K fd ps []
section
variable {X : Cx} {CX : CXT} {k : Nat} {f : Addr} {fd : FuncData} {ps : List Str} {sp : Sp} {dvs : List V} {ds : List Value} {E : XK}
theorem goG {pins : List (Addr × Obj)} {σ : L2.St} {H : Hp} {s : Shared} {Q : VK} {us : List Value} {vs : List V} (F : FnG X.prog X.w X.K X.mg X.base CX k f fd ps sp) (hG : X.A.guards = some []) (hr : Room k X.A)
    (hb : Binds X.K fd ps ds) (hd : Vals dvs ds) (hx : Passes CX X E) (I : Inv X pins σ H s) (r : Vals vs us) (h : sp (vs ++ dvs) H Q E) : wpAny (model X.prog X.w) X.A (call (.ref f) us) (EP X pins σ Q) X.xe s := by
  have rr := r.append hd
  have many := F.many _ _ _ _ h
  rw [rr.length] at many
  have go := F.go X.A X.stack s H ⟨us, []⟩ _ _ Q E hG hr I.env0 (hb s us I.kIn many) rr h
  refine wpAny_call (codeAny_mono go ?_)
  rintro (e | (_ | _ | _ | u)) s' q
  · exact hx _ _ _ _ _ _ I q
  all_goals first | exact I.after q | exact (show False from q).elim
theorem pe_callG {x : Str} {p pos : Pos} {e : Expr} {es : List Expr} {t : TA} (F : FnG X.prog X.w X.K X.mg X.base CX k f fd ps sp) (hG : X.A.guards = some []) (hr : Room k X.A) (hg : Gl X x) (hm : X.mg x = some (.ref f))
    (hk : PySem.W.keepIn X.K (.ref f) = true) (hb : Binds X.K fd ps ds) (hd : Vals dvs ds) (hx : Passes CX X E) (ha : PA X (e :: es) t) (hdb : (x == ("__debug__" : Str)) = false := by decide)
    (h1 : starEach (e :: es) X.env = (false, eval e X.env) :: starEach es X.env := by rfl) (h2 : (backTo pos (starEach es X.env)).any (·.1) = false := by rfl) : PE X (.Call (.Name x p) (e :: es) [] pos) (tCall sp dvs E t) :=
  ⟨fun pins s σ H Q I h => wpAny_Call_Name_kw (ld_glob I hg hm (PySem.W.callWith_K (h₀ := X.base) I.ok.mod.kin hk
    (thn (ha.run pos pins s σ H _ I h) fun _ _ q => match q with | ⟨_, _, J, r, q⟩ => ⟨J.kIn, goG F hG hr hb hd hx J r q⟩) h1 h2) hdb)⟩
theorem pe_call0G {x : Str} {p pos : Pos} (F : FnG X.prog X.w X.K X.mg X.base CX k f fd ps sp) (hG : X.A.guards = some []) (hr : Room k X.A) (hg : Gl X x) (hm : X.mg x = some (.ref f))
    (hk : PySem.W.keepIn X.K (.ref f) = true) (hb : Binds X.K fd ps ds) (hd : Vals dvs ds) (hx : Passes CX X E) (hdb : (x == ("__debug__" : Str)) = false := by decide) : PE X (.Call (.Name x p) [] [] pos) (tCall sp dvs E tNil) :=
  ⟨fun pins s σ H Q I h => wpAny_Call_Name_kw (ld_glob I hg hm (PySem.W.callWith_K0 I.kIn hk (goG (us := []) F hG hr hb hd hx I .nil h)) hdb)⟩
end
section
variable {P : Program} {w : World} {K : Fg} {mg : Str → Option Value} {base : Heap} {CX : CXT}
/-- the rule for a def whose body may ask for repr -/
theorem okG {x qual : Str} {st : Stmt} {f : Addr} {fd : FuncData} {N ps : List Str} {k : Nat} {sp : Sp} (F : Fun K x qual st f fd) (S : FnScope N ps (defScope st)) (many : ∀ vs H Q E, sp vs H Q E → vs.length = ps.length)
    (hb : ∀ (cdv : Value) (A : Around) (fr : List Env) (s : Shared) (H : Hp) (vs : List V) (Q : VK) (E : XK), A.guards = some [] → Room k (A.deeper (envOfC qual (defScope st) s.heap.objs.size f cdv)) → sp vs H Q E →
      ∃ t, PSs (cxOf CX P w K mg base N qual (defScope st) f cdv A fr s H E).nox (defBody st) t ∧ t { nx := fun _ H' => Q .non H', rt := Q } (start N vs) H) : FnG P w K mg base CX (k + 1) f fd ps sp := by
  refine ⟨many, fun A fr s H ar us vs Q E hG hr e0 hbi r q => ?_⟩
  obtain ⟨oc, od, kV, doc, pm, an, cdv, ct, osl, rfl, lk, hc⟩ := F.ex
  -- the def's promise at this one call alone
  let sp1 : Sp := fun vs' H' Q' E' => vs' = vs ∧ H' = H ∧ sp vs H Q' E'
  have hl := many _ _ _ _ q
  have KX : K.In s.heap := e0.mod.kin.keeps fun b o e => (e0.bs b o e).1
  have lim : s.heap.NoLimit := e0.mod.nolimit.keeps fun b o e => (e0.bs b o e).1
  have kinds : ∀ y ∈ ps.zip us, (defScope st).names.lookup y.1 = some .local ∨ ((defScope st).names.lookup y.1 = some .cell ∧ ((cellsFrom (s.heap.objs.size + 1) (defScope st).names []).lookup y.1).isSome = true) := by
    rintro ⟨n, v⟩ hy
    exact (S.par n (List.of_mem_zip hy).1).imp id fun q => ⟨q, PySem.W.cellsFrom_some _ _ _ (.inl q)⟩
  refine codeAny_call_function hr.depth (KX _ _ lk) rfl S.co S.gen rfl (PySem.W.codeRec_of KX hc) (hbi _ _ _ _ ?_)
  refine wpAny_newFunctionEnv_cells S.kind kinds fun env he s1 z => ?_
  subst he
  obtain ⟨t, ht, hq⟩ := hb cdv A fr s H vs Q E hG (hr.deeper _) q
  have I := inv_start (CX := CX) (P := P) (w := w) (K := K) (mg := mg) (base := base) (E := E) S hr.hd e0 hl r z
  refine ⟨lim.keeps z.toInCall.keep, codeAny_func (wpAny_mono (ht.nox.run [] s1 _ H _ I hq) ?_ fun _ _ h => h)⟩
  rintro (_ | _ | _ | u) s' h
  · obtain ⟨_, H', J, h⟩ := h
    exact ⟨V.non, H', J.os, J.bare, J.base, J.hok, rfl, h⟩
  · obtain ⟨_, _, _, h⟩ := h
    exact (show False from h).elim
  · obtain ⟨_, _, _, h⟩ := h
    exact (show False from h).elim
  · obtain ⟨v, _, H', J, rv, h⟩ := h
    exact ⟨v, H', J.os, J.bare, J.base, J.hok, rv, h⟩
end

/-! ### the head, for a law whose body may ask for repr -/
theorem head_call {P : Program} {w : World} {K : Fg} {mg mb : Str → Option Value} {k : Nat} {fa a : Addr} {fd : FuncData} {x : Str} {sp : Sp} {s₁ : Shared} {vs : List Value} {ns : List Int}
    (KX : K.In s₁.heap) (hns : s₁.heap.Ns mainGlobals mg) (hb : s₁.heap.Ns builtinsNs mb) (hbb : ∀ x : Str, x ≠ "__name__" → mb x = bootBuiltins x) (hlim : s₁.heap.NoLimit) (hg : s₁.gens = #[])
    (ha : s₁.heap.get? a = some { cls := .type "list", data := .seq vs.toArray }) (hi : IntsAre vs ns) (hl : ns.length ≤ sizeLine) (hr : Room k callerA)
    (F : ∀ base : Heap, K.In base → base.Ns mainGlobals mg → FnG P w K mg base CX0 k fa fd [x] sp) (hbi : ∀ (s : Shared) (u : Value), BindsTo s fd ⟨[u], []⟩ [(x, u)])
    (hsp : ∀ H : Hp, Only H → SqL K H a (ns.map V.int) → sp [.ref a] H (fun v _ => v = .bl true) fun _ _ _ => False) :
    codeAny (model P w) callerA (.call (.ref fa) ⟨[.ref a], []⟩) (fun r s' => r = .ok (.ret (.bool true)) ∧ OldK s₁.heap s'.heap ∧ s'.os = s₁.os ∧ AllBare s'.gens) s₁ := by
  have rv := vals_ints hi
  -- what is tracked: the script alone, if it is no object of the written part
  obtain ⟨H, hO, hS, hA, hK, hok⟩ : ∃ H : Hp, Only H ∧ SqL K H a (ns.map V.int) ∧ (∀ b, H b ≠ none → b = a) ∧ (H a ≠ none → K.lookup a = none) ∧ HOk P w H s₁.heap := by
    cases hk : K.lookup a with
    | some o =>
      have e := KX a o hk
      rw [ha] at e
      injection e with e
      subst e
      exact ⟨fun _ => none, fun _ => .inl rfl, .inr ⟨_, vs.toArray, _, hk, rfl, rfl, rfl, by simpa [hi.length] using hl, by simpa using rv⟩, fun b z => (z rfl).elim, fun z => (z rfl).elim, fun b u z => nomatch z⟩
    | none =>
      let o : Obj := { cls := .type "list", data := .seq vs.toArray }
      have at_ : ∀ b, (upd (fun _ => none) a (.frz o (.lst (ns.map V.int)))) b ≠ none → b = a := fun b z => by
        by_cases h : b = a
        · exact h
        · rw [upd_ne h] at z
          exact (z rfl).elim
      refine ⟨upd (fun _ => none) a (.frz o (.lst (ns.map V.int))), fun b => ?_, .inl (.inr ⟨o, upd_same⟩), at_, fun _ => rfl, fun b u z => ?_⟩
      · by_cases h : b = a
        · subst h
          exact .inr ⟨o, _, upd_same⟩
        · exact .inl (upd_ne h)
      · obtain rfl := at_ b (by rw [z]; simp)
        rw [upd_same] at z
        injection z with z
        subst z
        exact ⟨ha, by simpa using hl, vs, _, rv, ha⟩
  have noA : ∀ {b : Addr} {o : Obj} {es : Array DictEntry} {ep : Nat}, s₁.heap.get? b = some o → o.data = .dict es ep → H b = none := by
    intro b o es ep e d
    cases q : H b with
    | none => rfl
    | some u =>
      obtain rfl := hA b (by rw [q]; simp)
      rw [ha] at e
      injection e with e
      rw [← e] at d
      cases d
  have nsK : ∀ {b : Addr} {m : Str → Option Value}, s₁.heap.Ns b m → (hidT s₁.heap H).Ns b m := fun {b m} ⟨o, es, ep, e, d, r⟩ => ⟨o, es, ep, hidT_get e (noA e d), d, r⟩
  have hKb : K.In (hidT s₁.heap H) := fun b o e => hidT_get (KX b o e) (by
    cases q : H b with
    | none => rfl
    | some u =>
      obtain rfl := hA b (by rw [q]; simp)
      rw [hK (by rw [q]; simp)] at e
      cases e)
  have hM : Mod K mg (hidT s₁.heap H) := by
    obtain ⟨mc, h1, h2⟩ := hlim
    exact ⟨hKb, nsK hns, ⟨mb, nsK hb, hbb⟩, ⟨mc, nsK h1, h2⟩⟩
  have e0 : Env0 P w K mg (hidT s₁.heap H) callerA [] s₁ H :=
    ⟨rfl, hM, fun b o e => of_hidT e, Nat.le_of_eq (hidT_size _ _), trivial, fun b z => absurd (show b ∈ ([] : List Addr) from z) (by simp), hok, .of_eq hg⟩
  have go := (F _ hKb (nsK hns)).go callerA [] s₁ H ⟨[.ref a], []⟩ [.ref a] [.ref a] _ _ rfl hr e0 (hbi s₁ (.ref a)) (.cons rfl .nil) (hsp H hO hS)
  refine codeAny_mono go ?_
  rintro (e | (_ | _ | _ | u)) s' h
  · exact (show False from h).elim
  · exact (show False from h).elim
  · exact (show False from h).elim
  · exact (show False from h).elim
  · obtain ⟨v, H', os, bare, un, hok', r', rfl⟩ := h
    obtain rfl : u = Value.bool true := r'
    refine ⟨rfl, OldK.of_keep fun b o e => ?_, os, bare⟩
    cases q : H b with
    | none => exact un.keep b o e q (fun z => absurd (show b ∈ ([] : List Addr) from z) (by simp)) (by simp)
    | some u =>
      rcases hO b with z | ⟨ob, xs, z⟩
      · rw [q] at z
        cases z
      · have e1 := (hok b _ z).1
        rw [e] at e1
        rw [(hok' b _ (un.frzs b ob _ z)).1, ← e1]
theorem walk_G {l : PySem.W.OpenLaw} {n k : Nat} {q : Program} {loose : List Str} {XP : (Str → Option Value) → Heap → Prop} {YP : World → Heap → Prop} {d : DefRec} {K : Params → Fg} {sp : Fg → Sp} {x : Str}
    (hn : l.most = some n) (hn2 : n ≤ sizeLine) (hdf : d.params.defaults = []) (hr : Room k callerA) (hY : ∀ (w : World) (h : Heap), YP w h → (K w.params).In h)
    (F : ∀ (w : World) (mg : Str → Option Value) (fa : Addr) (h : Heap), (K w.params).In h → h.Ns mainGlobals mg → mg d.name = some (.ref fa) →
      ∃ fd : FuncData, (∀ (s : Shared) (u : Value), BindsTo s fd ⟨[u], []⟩ [(x, u)]) ∧ ∀ base : Heap, (K w.params).In base → base.Ns mainGlobals mg → FnG l.prog w (K w.params) mg base CX0 k fa fd [x] (sp (K w.params)))
    (hsp : ∀ (K : Fg) (H : Hp) (a : Addr) (ns : List Int), ns.length ≤ n → Only H → SqL K H a (ns.map V.int) → sp K [.ref a] H (fun v _ => v = .bl true) fun _ _ _ => False) :
    PySem.W.WalkO q loose XP YP l.row.toRowW d [] (fun f vs => PySem.call f vs) := by
  refine Att.attach_call hn hdf fun w s₀ s₁ mg mb fa o pm cd doc a vs ns G Y ho hd hcd hmg hobj hints hlen hg => ?_
  obtain ⟨fd, hb, hF⟩ := F w mg fa _ (hY w _ Y) G.T.g hmg
  exact head_call (hY w _ Y) G.T.g G.T.b G.T.builtins G.T.nolimit hg hobj hints (Nat.le_trans hlen hn2) hr hF hb fun H hO hS => hsp _ H a ns hlen hO hS

/-! ### data with dicts, and its repr -/
def keyD : Key → PyData
  | .inl i => .int i
  | .inr x => .str x
/-- a written list, new: it does not stand where sys.modules does -/
def tLstS (t : TA) : TE := fun σ H Q => t σ H fun xs H1 => xs.length ≤ sizeLine ∧ ∀ p, H1 p = none → p ≠ sysModules → Q (.ref p) (upd H1 p (.lst xs))
theorem pe_lstS {X : Cx} {es : List Expr} {pos : Pos} {t : TA} (h : PA X es t) : PE X (.List es pos) (tLstS t) := by
  constructor
  intro pins s σ H Q I hq
  apply wpAny_List_spliced
  apply thn (h.run pos pins s σ H _ I hq)
  rintro us s1 ⟨xs, H1, I1, r, z, q⟩
  have fr : H1 s1.heap.objs.size = none := I1.hok.fresh (Nat.le_refl _)
  have new : ObjOk X.prog X.w (upd H1 s1.heap.objs.size (.lst xs)) (s1.heap.push { cls := .type "list", data := .seq us.toArray }) s1.heap.objs.size (.lst xs) := ⟨z, us, 0, r, Heap.get?_push_size _ rfl⟩
  exact ⟨r.length ▸ z, V.ref _, _, I1.laid (t' := s1.toks) (fun _ _ => Heap.get?_push_of_some _) (Nat.le_refl _) new, rfl, q _ fr (Nat.ne_of_gt I1.big)⟩
mutual
inductive Dx (K : Fg) (H : Hp) : V → PyData → Prop
  | non : Dx K H .non .none
  | bl (b : Bool) : Dx K H (.bl b) (.bool b)
  | int (i : Int) : Dx K H (.int i) (.int i)
  | str (x : Str) : Dx K H (.str x) (.str x)
  | lst {a : Addr} {xs : List V} {ds : List PyData} : a ≠ sysModules → SqL K H a xs → DxAll K H xs ds → Dx K H (.ref a) (.list ds)
  | tup {a : Addr} {xs : List V} {ds : List PyData} : SqT K H a xs → DxAll K H xs ds → Dx K H (.ref a) (.tuple ds)
  | dic {a : Addr} {kvs : List (Key × V)} {ds : List PyData} : Rd H a (.dK kvs) → DxAll K H (kvs.map (·.2)) ds → Dx K H (.ref a) (.dict ((kvs.map fun p => keyD p.1).zip ds))
inductive DxAll (K : Fg) (H : Hp) : List V → List PyData → Prop
  | nil : DxAll K H [] []
  | cons {v : V} {vs : List V} {d : PyData} {ds : List PyData} : Dx K H v d → DxAll K H vs ds → DxAll K H (v :: vs) (d :: ds)
end
theorem DxAll.len {K : Fg} {H : Hp} : ∀ {vs : List V} {ds : List PyData}, DxAll K H vs ds → vs.length = ds.length
  | _, _, .nil => rfl
  | _, _, .cons _ t => congrArg (· + 1) t.len
theorem zip_fst {α β : Type} : ∀ {xs : List α} {ys : List β}, xs.length = ys.length → (xs.zip ys).map (·.1) = xs
  | [], [], _ => rfl
  | x :: xs, y :: ys, h => congrArg (x :: ·) (zip_fst (xs := xs) (ys := ys) (Nat.succ.inj h))
  | [], _ :: _, h => nomatch h
  | _ :: _, [], h => nomatch h
theorem zip_snd {α β : Type} : ∀ {xs : List α} {ys : List β}, xs.length = ys.length → (xs.zip ys).map (·.2) = ys
  | [], [], _ => rfl
  | x :: xs, y :: ys, h => congrArg (y :: ·) (zip_snd (xs := xs) (ys := ys) (Nat.succ.inj h))
  | [], _ :: _, h => nomatch h
  | _ :: _, [], h => nomatch h
section
variable {X : Cx} {pins : List (Addr × Obj)} {σ : L2.St} {H : Hp} {s : Shared}
theorem keys_read {h : Heap} : ∀ {es : List DictEntry} {vs : List (Key × Value)}, PySem.Pairs (mixKind X.prog X.w) es vs → ReadsAll h (es.map (·.key)) (vs.map fun p => keyD p.1) []
  | _, _, .nil => .nil
  | e :: es, (k, v) :: vs, .cons h1 _ t => by
    refine ReadsAll.cons (as := []) (bs := []) ?_ (keys_read t)
    rcases keyIs_shape (show keyIs k e.key = true from h1) with ⟨i, tk, rfl, q⟩ | ⟨x, tk, rfl, q⟩
    · show Reads h e.key (.int i) []
      rw [q]
      exact Reads.int i tk
    · show Reads h e.key (.str x) []
      rw [q]
      exact Reads.str x tk
theorem vals_of_pairs {P : Program} {w : World} : ∀ {es : List DictEntry} {vs : List (Key × Value)}, PySem.Pairs (mixKind P w) es vs → es.map (·.val) = vs.map (·.2)
  | _, _, .nil => rfl
  | e :: es, (k, v) :: vs, .cons _ h2 t => by
    rw [List.map_cons, List.map_cons, vals_of_pairs t, h2]
theorem kv_fst : ∀ {kvs : List (Key × V)} {vs : List (Key × Value)}, KV kvs vs → (kvs.map fun p => keyD p.1) = vs.map fun p => keyD p.1
  | _, _, .nil => rfl
  | _, _, .cons h t => by
    rw [List.map_cons, List.map_cons, kv_fst t, h.1]
theorem kv_snd : ∀ {kvs : List (Key × V)} {vs : List (Key × Value)}, KV kvs vs → Vals (kvs.map (·.2)) (vs.map (·.2))
  | _, _, .nil => .nil
  | _, _, .cons h t => .cons h.2 (kv_snd t)
mutual
theorem Dx.reads (I : Inv X pins σ H s) : ∀ (d : PyData) (v : V) (u : Value), Dx X.K H v d → RelV v u → ∃ as, Reads s.heap u d as ∧ sysModules ∉ as
  | .none, _, _, h, r => by
    cases h
    cases r
    exact ⟨_, Reads.none, by simp⟩
  | .bool b, _, _, h, r => by
    cases h
    cases r
    exact ⟨_, Reads.bool b, by simp⟩
  | .int i, _, _, h, r => by
    cases h
    obtain ⟨t, rfl⟩ := r
    exact ⟨_, Reads.int i t, by simp⟩
  | .str x, _, _, h, r => by
    cases h
    obtain ⟨t, rfl⟩ := r
    exact ⟨_, Reads.str x t, by simp⟩
  | .list ds, _, _, h, r => by
    cases h with
    | lst ne hs ha =>
      cases r
      obtain ⟨its, rv, ⟨o, n, ho, hc, _, hd⟩, _⟩ := I.list hs
      obtain ⟨as, hr, hn⟩ := Dx.readsAll I ds _ its ha rv
      exact ⟨_, Reads.list ho hc hd hr, fun z => (List.mem_cons.mp z).elim (fun e => ne e.symm) hn⟩
  | .tuple ds, _, _, h, r => by
    cases h with
    | tup hs ha =>
      cases r
      obtain ⟨its, rv, ⟨o, ho, hc, n, hd⟩, _⟩ := I.tuple hs
      obtain ⟨as, hr, hn⟩ := Dx.readsAll I ds _ its ha rv
      exact ⟨_, Reads.tuple ho hc hd hr, hn⟩
  | .dict ps, v, _, h, r => by
    generalize e : PyData.dict ps = d at h
    cases h with
    | dic hs ha =>
      rename_i a kvs ds
      injection e with e
      cases r
      obtain ⟨z, sm, vs, rel, o, es, ep, ho, hx, hd, _, hp, _⟩ := hs.ok I.hok
      have el : (kvs.map fun p => keyD p.1).length = ds.length := by
        rw [List.length_map, ← ha.len, List.length_map]
      have e2 : ps.map (·.2) = ds := by rw [e, zip_snd el]
      have ha' : DxAll X.K H (kvs.map (·.2)) (ps.map (·.2)) := by rw [e2]; exact ha
      obtain ⟨as, hr, hn⟩ := Dx.readsKv I ps _ _ ha' (kv_snd rel)
      subst e
      refine ⟨_, Reads.dict (as := []) (bs := as) ho hx.1 hd ?_ ?_, ?_⟩
      · rw [zip_fst el, kv_fst rel]
        exact keys_read hp
      · rw [vals_of_pairs hp]
        exact hr
      · intro q
        rcases List.mem_cons.mp q with q | q
        · subst q
          exact absurd sm (by simp)
        · exact hn (by simpa using q)
    | _ => nomatch e
theorem Dx.readsKv (I : Inv X pins σ H s) : ∀ (ps : List (PyData × PyData)) (vs : List V) (us : List Value), DxAll X.K H vs (ps.map (·.2)) → Vals vs us → ∃ as, ReadsAll s.heap us (ps.map (·.2)) as ∧ sysModules ∉ as
  | [], _, _, h, r => by
    cases h
    cases r
    exact ⟨_, ReadsAll.nil, by simp⟩
  | (k, d) :: ps, vs, us, h, r => by
    generalize e : ((k, d) :: ps).map (·.2) = l at h
    cases h with
    | nil => nomatch e
    | cons h1 h2 =>
      injection e with e1 e2
      subst e1
      subst e2
      cases r with
      | cons r1 r2 =>
        obtain ⟨as, q1, n1⟩ := Dx.reads I d _ _ h1 r1
        obtain ⟨bs, q2, n2⟩ := Dx.readsKv I ps _ _ h2 r2
        exact ⟨_, ReadsAll.cons q1 q2, fun z => (List.mem_append.mp z).elim n1 n2⟩
theorem Dx.readsAll (I : Inv X pins σ H s) : ∀ (ds : List PyData) (vs : List V) (us : List Value), DxAll X.K H vs ds → Vals vs us → ∃ as, ReadsAll s.heap us ds as ∧ sysModules ∉ as
  | [], _, _, h, r => by
    cases h
    cases r
    exact ⟨_, ReadsAll.nil, by simp⟩
  | d :: ds, _, _, h, r => by
    cases h with
    | cons h1 h2 =>
      cases r with
      | cons r1 r2 =>
        obtain ⟨as, q1, n1⟩ := Dx.reads I d _ _ h1 r1
        obtain ⟨bs, q2, n2⟩ := Dx.readsAll I ds _ _ h2 r2
        exact ⟨_, ReadsAll.cons q1 q2, fun z => (List.mem_append.mp z).elim n1 n2⟩
end
end
/-- it may be shown: small enough, its ints short -/
structure Fit (d : PyData) : Prop where
  sh : d.showable = true
  lv : d.leavesShort 40 = true
  bk : d.bulk ≤ 300000
  dp : d.depth ≤ 30
theorem Fit.len {d : PyData} (h : Fit d) : d.shown.length ≤ sizeLine := by
  have h1 := PyData.shown_le_bulk 40 (by decide) d h.lv
  have h2 := h.bk
  have h3 : sizeLine = 16777216 := rfl
  omega
def rRepr (K : Fg) : List V → Hp → VK → Prop := fun xs H Q => ∃ x d, xs = [x] ∧ Dx K H x d ∧ Fit d ∧ Q (.str d.shown) H
theorem call_repr {X : Cx} (hG : X.A.guards = some []) (hu : X.A.units + 64 < cLine) : CallR X (.builtin "repr") (rRepr X.K) := by
  rintro pins s σ H xs us Q I r ⟨x, d, rfl, hd, hf, q⟩
  cases r with
  | cons rx r' =>
    cases r'
    obtain ⟨as, hr, hn⟩ := Dx.reads I d _ _ hd rx
    have sz := hf.len
    have out : ∀ (h' : Heap) (u tk : Tok), (∀ b o, s.heap.get? b = some o → h'.get? b = some o) → EP X pins σ Q (.str d.shown u) { s with heap := h', toks := tk } :=
      fun h' u tk k => ⟨.str d.shown, H, I.kept (t' := tk) k, ⟨u, rfl⟩, q⟩
    have out0 : EP X pins σ Q (.str d.shown s.toks) { s with toks := s.toks + 1 } := ⟨.str d.shown, H, I.tok _, ⟨_, rfl⟩, q⟩
    have dp := hf.dp
    cases hd with
    | non =>
      cases rx
      exact PySem.P.repr_of_none (by rw [show PyData.shown .none = ("None" : Str) by simp only [PyData.shown]] at out0; exact out0)
    | bl b =>
      cases rx
      exact PySem.P.repr_of_bool (by rw [show PyData.shown (.bool b) = (if b then "True" else "False" : Str) by simp only [PyData.shown]] at out0; exact out0)
    | int i =>
      obtain ⟨t, rfl⟩ := rx
      have sh : i.natAbs.log2 < 1920 := by simpa only [PyData.showable, decide_eq_true_eq] using hf.sh
      exact PySem.P.repr_of_int sh (by rw [show PyData.shown (.int i) = ((toString i : String) : Str) by simp only [PyData.shown]] at out0; exact out0)
    | str z =>
      obtain ⟨t, rfl⟩ := rx
      have e : PyData.shown (.str z) = reprText z := by simp only [PyData.shown]
      rw [e] at out0 sz
      exact PySem.P.repr_of_str out0 sz
    | lst => cases rx; exact repr_of_reads' hr hf.sh (fun _ => hn) hG (by omega) (fun _ _ e => e) out sz
    | tup => cases rx; exact repr_of_reads' hr hf.sh (fun _ => hn) hG (by omega) (fun _ _ e => e) out sz
    | dic => cases rx; exact repr_of_reads' hr hf.sh (fun _ => hn) hG (by omega) (fun _ _ e => e) out sz
/-! ### comprehensions whose elements change nothing -/
/-- what the reading of a comprehension asks once its new list stands at D -/
abbrev LcB (J : It) (g : TG) (tt : TT) (te : TE) (own : List Nat) (σ : L2.St) (H1 : Hp) (D : Addr) (Qd : Hp → Prop) : Prop :=
  ∃ U : Nat → Nat → Hp → Prop, (∃ k, U 0 k (upd H1 D (.lst []))) ∧ ∀ j k G, U j k G → (J.stop j G ∧ Qd G) ∨
    (J.go j G ∧ ∃ Z : Hp → Prop, (∀ G', Z G' → ∃ k', k' < k ∧ U (j + 1) k' G') ∧ ∀ y G', J.yld j G y G' → g y (wipe σ own) G' fun σ' G2 => wipe σ' own = wipe σ own ∧
      tt σ' G2 fun c G3 => if c = true then te σ' G3 fun r G4 => ∃ got, G4 D = some (.lst got) ∧ got.length < sizeLine ∧ Z (upd G4 D (.lst (got ++ [r]))) else Z G3)
theorem small_line {n : Nat} (h : n ≤ 1000000) : n < sizeLine := Nat.lt_of_le_of_lt h (by decide)
/-- over a text, each element made of its sign alone -/
theorem lc_str {z : Str} {σ : L2.St} {H : Hp} {v : Nat} {te : TE} {D : Addr} {Qd : Hp → Prop} (f : Nat → V) (hz : z.length ≤ 100000)
    (hte : ∀ (c : Nat) (G : Hp) (R : VK), c ∈ z.cps.toList → R (f c) G → te ((wipe σ [v]).set v (some (.str ⟨#[c]⟩))) G R) (h : Qd (upd H D (.lst (z.cps.toList.map f)))) :
    LcB (Its z) (gName v) tYes te [v] σ H D Qd := by
  refine lc_it (walk_str (z := z)) (fun i G => G = upd H D (.lst ((z.cps.toList.take i).map f))) rfl (fun _ _ _ _ => trivial) ?_ ?_
  · rintro i x H1 H2 hi rfl ⟨rfl, c, hc, rfl⟩
    have hc' : z.cps.toList[i]? = some c := by rw [Array.getElem?_toList]; exact hc
    have hm : c ∈ z.cps.toList := List.mem_of_getElem? hc'
    refine ⟨?_, ?_⟩
    · show wipe ((wipe σ [v]).set v _) [v] = _
      simp [wipe]
    · refine hte c _ _ hm ⟨_, upd_same, ?_, ?_⟩
      · rw [List.length_map, List.length_take]
        have : z.cps.toList.length = z.length := by simp [Str.length]
        exact small_line (by omega)
      · rw [upd_upd, List.take_add_one, hc', List.map_append]
        rfl
  · rintro H' rfl
    have e : z.cps.toList.take z.cps.size = z.cps.toList := List.take_of_length_le (by simp)
    rw [e]
    exact h
/-- over range(n), the heap turned by each element: Pv by what is made so far -/
theorem lc_rng {n : Nat} {σ : L2.St} {H : Hp} {v : Nat} {te : TE} {D : Addr} {Qd : Hp → Prop} (Pv : Nat → List V → Hp → Prop) (hn : n ≤ 100000) (h0 : Pv 0 [] (upd H D (.lst [])))
    (hte : ∀ (i : Nat) (xs : List V) (G : Hp) (R : VK), i < n → Pv i xs G → xs.length = i → G D = some (.lst xs) →
      (∀ y G', G' D = some (.lst xs) → Pv (i + 1) (xs ++ [y]) (upd G' D (.lst (xs ++ [y]))) → R y G') → te ((wipe σ [v]).set v (some (.int (0 + (i : Nat))))) G R)
    (h : ∀ xs G, xs.length = n → G D = some (.lst xs) → Pv n xs G → Qd G) :
    LcB (Itr 0 n) (gName v) tYes te [v] σ H D Qd := by
  refine lc_it (walk_range (lo := 0) (n := n)) (fun i G => ∃ xs : List V, xs.length = i ∧ G D = some (.lst xs) ∧ Pv i xs G) ⟨[], rfl, upd_same, h0⟩ (fun _ _ _ _ => trivial) ?_ ?_
  · rintro i x H1 H2 hi ⟨xs, hl, hD, hp⟩ ⟨rfl, rfl⟩
    refine ⟨?_, ?_⟩
    · show wipe ((wipe σ [v]).set v _) [v] = _
      simp [wipe]
    · refine hte i xs _ _ hi hp hl hD fun y G' hD' hp' => ⟨xs, hD', small_line (by omega), xs ++ [y], ?_, upd_same, hp'⟩
      rw [List.length_append, hl]
      rfl
  · rintro G ⟨xs, hl, hD, hp⟩
    exact h xs G hl hD hp
/-- data that is no text -/
inductive Oth (H : Hp) : V → Prop where
  | non : Oth H .non
  | bl (b : Bool) : Oth H (.bl b)
  | int (i : Int) : Oth H (.int i)
  | lst {a : Addr} {xs : List V} (e : H a = some (.lst xs)) : Oth H (.ref a)
  | tup {a : Addr} {xs : List V} (e : H a = some (.tup xs)) : Oth H (.ref a)
  | dic {a : Addr} {kvs : List (Key × V)} (e : H a = some (.dK kvs)) : Oth H (.ref a)
theorem Oth.same {H H' : Hp} {x : V} (h : Oth H x) (s : Same H H') : Oth H' x := by
  cases h with
  | non => exact .non
  | bl b => exact .bl b
  | int i => exact .int i
  | lst e => exact .lst (s _ _ e)
  | tup e => exact .tup (s _ _ e)
  | dic e => exact .dic (s _ _ e)
theorem Oth.ty {K : Fg} {H : Hp} {x : V} (h : Oth H x) : ∃ t, TyX K H x t ∧ PySem.W.kitOne K t (.type "str") = some false := by
  cases h with
  | non => exact ⟨_, .base .non, kit_ty (by decide +kernel)⟩
  | bl b => exact ⟨_, .base (.bl b), kit_ty (by decide +kernel)⟩
  | int i => exact ⟨_, .base (.int i), kit_ty (by decide +kernel)⟩
  | lst e => exact ⟨_, .base (.lst e), kit_ty (by decide +kernel)⟩
  | tup e => exact ⟨_, .base (.tup e), kit_ty (by decide +kernel)⟩
  | dic e => exact ⟨_, .base (.dK e), kit_ty (by decide +kernel)⟩
theorem str_ty {K : Fg} {H : Hp} (z : Str) : ∃ t, TyX K H (.str z) t ∧ PySem.W.kitOne K t (.type "str") = some true := ⟨_, .base (.str z), kit_ty (by decide +kernel)⟩
theorem same_new {H : Hp} {p : Addr} {o : HO} (h : H p = none) : Same H (upd H p o) := fun b x e => (upd_ne (ne_of_none e h)).trans e

/-! ### evaluations: more of them -/
section
open Evl
variable {K : Fg} {σ : L2.St} {H H' : Hp} {ta tb tc te : TE} {t u : TT} {x y z v : V}
/-- a new list that does not stand where sys.modules does -/
def EvM (te : TE) (σ : L2.St) (H : Hp) (xs : List V) : Prop := ∀ H1, Ex H H1 → ∀ Q : VK, (∀ p H2, H1 p = none → p ≠ sysModules → Ex H1 H2 → H2 p = some (.lst xs) → Q (.ref p) H2) → te σ H1 Q
theorem EvM.l {xs : List V} (h : EvM te σ H xs) : EvL te σ H xs := fun H1 e Q q => h H1 e Q fun p H2 a _ b c => q p H2 a b c
theorem em_lst {ta : TA} {vs : List V} (h : EvA ta σ H vs) (hl : vs.length ≤ 100000) : EvM (tLstS ta) σ H vs := fun H1 e _ q =>
  h H1 e _ fun H2 e2 => ⟨sz_of hl, fun p hp ne => q p _ (fresh_back e2 hp) ne (e2.trans (Ex.new hp)) upd_same⟩
theorem ev_chain {a b c : Int} {p q : Int → Int → Bool} (ha : Ev ta σ H (.int a)) (hb : Ev tb σ H (.int b)) (hc : Ev tc σ H (.int c)) :
    Ev (tChain (rI0 fun i j => .bl (p i j)) (rI0 fun i j => .bl (q i j)) ta tb tc) σ H (.bl (p a b && q b c)) := fun H1 e Q k =>
  ha H1 e _ fun H2 e2 => hb H2 (e.trans e2) _ fun H3 e3 => ⟨a, b, rfl, rfl, p a b, rfl, by
    have k' := fun G (g : Ex H3 G) => k G ((e2.trans e3).trans g)
    cases h : p a b with
    | true =>
      rw [h] at k'
      exact iteT (hc H3 ((e.trans e2).trans e3) _ fun H4 e4 => ⟨b, c, rfl, rfl, k' H4 e4⟩)
    | false =>
      rw [h] at k'
      exact iteF (k' H3 (Ex.refl _))⟩
theorem ev_isiS {n : String} {b : Bool} {z : Str} (ha : Ev ta σ H (.str z)) (hk : PySem.W.kitOne K (.type "str") (.type n) = some b) : Ev (tCB (rIsi K) (tCons ta (tCons (tC (.ty n)) tNil))) σ H (.bl b) := fun H1 e Q q =>
  ha H1 e _ fun H2 e2 => ⟨_, .ty n, _, _, b, rfl, .ty n, .base (.str z), hk, q H2 e2⟩
theorem ev_isiO (ha : Ev ta σ H x) (ho : Oth H x) : Ev (tCB (rIsi K) (tCons ta (tCons (tC (.ty "str")) tNil))) σ H (.bl false) := fun H1 e Q q =>
  ha H1 e _ fun H2 e2 => by
    obtain ⟨t, ty, kt⟩ := (ho.same (H' := H2) (e.trans e2)).ty (K := K)
    exact ⟨x, .ty "str", t, _, false, rfl, .ty "str", ty, kt, q H2 e2⟩
theorem ev_lenS {z : Str} (ha : Ev ta σ H (.str z)) (hz : z.length ≤ 100000) : Ev (tCB (fun xs H Q => ∃ a : Str, xs = [.str a] ∧ a.length ≤ sizeLine ∧ Q (.int a.length) H) (tCons ta tNil)) σ H (.int (z.length : Int)) := fun H1 e Q q =>
  ha H1 e _ fun H2 e2 => ⟨z, rfl, sz_of hz, q H2 e2⟩
theorem rv_inS {c : Nat} {z : Str} : RV (fun x y H Q => ∃ (c : Nat) (z : Str), x = .str ⟨#[c]⟩ ∧ y = .str z ∧ Q (.bl (decide (c ∈ z.cps.toList))) H) (.str ⟨#[c]⟩) (.str z) H (.bl (decide (c ∈ z.cps.toList))) :=
  fun H1 _ _ q => ⟨c, z, rfl, rfl, q H1 (Ex.refl H1)⟩
/-- a comprehension over a text: which signs give, and what -/
theorem el_lcS {z : Str} {j : Nat} {vs : List Nat} (f : Nat → Bool) (g : Nat → V) (h : Ev te σ H (.str z)) (hz : z.length ≤ 40000) (hw : ∀ x, wipe ((wipe σ vs).set j (some x)) vs = wipe σ vs)
    (ht : ∀ (c : Nat) H1, Ex H H1 → c ∈ z.cps.toList → EvT t ((wipe σ vs).set j (some (.str ⟨#[c]⟩))) H1 (f c)) (he : ∀ (c : Nat) H1, Ex H H1 → c ∈ z.cps.toList → f c = true → Ev ta ((wipe σ vs).set j (some (.str ⟨#[c]⟩))) H1 (g c)) :
    EvL (tLc (iStr te) (gName j) t ta vs) σ H ((z.cps.toList.filter f).map g) := fun H0 e Q q => h H0 e _ fun H1 e1 => ⟨z, rfl, fun D hD =>
  lc_it (walk_str (z := z)) (fun i G => Ex H1 G ∧ G D = some (.lst (((z.cps.toList.take i).filter f).map g))) ⟨Ex.new hD, upd_same⟩ (fun _ _ _ _ => trivial) (by
    rintro i x G1 G2 hi ⟨eG, hG⟩ ⟨rfl, c, hc, rfl⟩
    have hc' : z.cps.toList[i]? = some c := by rw [Array.getElem?_toList]; exact hc
    have hm : c ∈ z.cps.toList := List.mem_of_getElem? hc'
    refine ⟨hw _, ht c _ (e.trans e1) hm G2 eG _ fun G3 e3 => ?_⟩
    cases hf : f c with
    | true =>
      refine iteT (he c _ (e.trans e1) hm hf G3 (eG.trans e3) _ fun G4 e4 => ⟨_, e4 D _ (e3 D _ hG), ?_, Ex.mut ((eG.trans e3).trans e4) hD, ?_⟩)
      · have h1 := List.length_filter_le f (z.cps.toList.take i)
        rw [List.length_take] at h1
        rw [List.length_map]
        have h2 : z.cps.toList.length = z.length := by simp [Str.length]
        exact sz_lt (by omega)
      · rw [upd_same, List.take_add_one, hc', List.filter_append, List.map_append]
        simp [hf]
    | false =>
      refine iteF ⟨eG.trans e3, ?_⟩
      rw [e3 D _ hG, List.take_add_one, hc', List.filter_append]
      simp [hf]) (by
    rintro G ⟨eG, hG⟩
    have e9 : z.cps.toList.take z.cps.size = z.cps.toList := List.take_of_length_le (by simp)
    rw [e9] at hG
    exact q D G (fresh_back e1 hD) (e1.trans eG) hG)⟩
theorem et_yes : EvT tYes σ H true := fun H1 _ _ q => q H1 (Ex.refl H1)
theorem ev_all {bs : List Bool} (h : EvL te σ H (bs.map V.bl)) : Ev (tCB (rAll K) (tCons te tNil)) σ H (.bl (bs.all id)) := fun H1 e Q q =>
  h H1 e _ fun p H2 _ e2 h2 => ⟨p, bs, rfl, sq_of h2, q H2 e2⟩
theorem ev_any {bs : List Bool} (h : EvL te σ H (bs.map V.bl)) : Ev (tCB (rAny K) (tCons te tNil)) σ H (.bl (bs.any id)) := fun H1 e Q q =>
  h H1 e _ fun p H2 _ e2 h2 => ⟨p, bs, rfl, sq_of h2, q H2 e2⟩
/-- all(p(c) for every sign c) -/
theorem ev_allS {z : Str} {j : Nat} {vs : List Nat} (f : Nat → Bool) (h : Ev te σ H (.str z)) (hz : z.length ≤ 40000) (hw : ∀ x, wipe ((wipe σ vs).set j (some x)) vs = wipe σ vs)
    (he : ∀ (c : Nat) H1, Ex H H1 → c ∈ z.cps.toList → Ev ta ((wipe σ vs).set j (some (.str ⟨#[c]⟩))) H1 (.bl (f c))) :
    Ev (tCB (rAll K) (tCons (tLc (iStr te) (gName j) tYes ta vs) tNil)) σ H (.bl (z.cps.toList.all f)) := by
  have h1 := el_lcS (t := tYes) (fun _ => true) (fun c => .bl (f c)) h hz hw (fun _ _ _ _ => et_yes) fun c H1 e m _ => he c H1 e m
  rw [List.filter_eq_self.mpr fun _ _ => rfl, show (z.cps.toList.map fun c => V.bl (f c)) = (z.cps.toList.map f).map V.bl by rw [List.map_map]; rfl] at h1
  have h2 := ev_all (K := K) h1
  rw [List.all_map] at h2
  exact h2
theorem Dx.same {d : PyData} (e : Ex H H') : Dx K H v d → Dx K H' v d := by
  intro h
  induction h using Dx.rec (motive_2 := fun vs ds _ => DxAll K H' vs ds) with
  | non => exact .non
  | bl b => exact .bl b
  | int i => exact .int i
  | str x => exact .str x
  | lst ne hs _ ih => exact .lst ne (ex_l e hs) ih
  | tup hs _ ih => exact .tup (ex_t e hs) ih
  | dic hs _ ih => exact .dic (ex_rd e hs) ih
  | nil => exact .nil
  | cons _ _ h1 h2 => exact .cons h1 h2
theorem DxAll.same {vs : List V} {ds : List PyData} (e : Ex H H') : DxAll K H vs ds → DxAll K H' vs ds
  | .nil => .nil
  | .cons a b => .cons (a.same e) (b.same e)
theorem ev_repr {d : PyData} (h : Ev te σ H v) (hd : Dx K H v d) (hf : Fit d) : Ev (tCB (rRepr K) (tCons te tNil)) σ H (.str d.shown) := fun H1 e Q q =>
  h H1 e _ fun H2 e2 => ⟨v, d, rfl, hd.same (e.trans e2), hf, q H2 e2⟩
/-- repr of a written list -/
theorem ev_reprL {xs : List V} {ds : List PyData} (h : EvM te σ H xs) (hd : DxAll K H xs ds) (hf : Fit (.list ds)) : Ev (tCB (rRepr K) (tCons te tNil)) σ H (.str (PyData.list ds).shown) := fun H1 e Q q =>
  h H1 e _ fun p H2 _ ne e2 hp => ⟨.ref p, _, rfl, .lst ne (sq_of hp) (hd.same (e.trans e2)), hf, q H2 e2⟩
end
section
open Evl
variable {σ : L2.St} {H : Hp} {ta tb : TE}
theorem dI {a b : Int} : decide (V.int a = V.int b) = decide (a = b) := decide_eq_decide.mpr ⟨V.int.inj, congrArg _⟩
theorem dS {a b : Str} : decide (V.str a = V.str b) = decide (a = b) := decide_eq_decide.mpr ⟨V.str.inj, congrArg _⟩
theorem ev_eqI {a b : Int} (ha : Ev ta σ H (.int a)) (hb : Ev tb σ H (.int b)) : Ev (tOp rEq ta tb) σ H (.bl (decide (a = b))) := ev_is (ev_op ha hb (rv_eq rfl)) (by rw [dI])
theorem ev_neI {a b : Int} (ha : Ev ta σ H (.int a)) (hb : Ev tb σ H (.int b)) : Ev (tOp rNe ta tb) σ H (.bl (!decide (a = b))) := ev_is (ev_op ha hb (rv_ne rfl)) (by rw [dI])
theorem ev_eqS {a b : Str} (ha : Ev ta σ H (.str a)) (hb : Ev tb σ H (.str b)) : Ev (tOp rEq ta tb) σ H (.bl (decide (a = b))) := ev_is (ev_op ha hb (rv_eq rfl)) (by rw [dS])
theorem ev_neS {a b : Str} (ha : Ev ta σ H (.str a)) (hb : Ev tb σ H (.str b)) : Ev (tOp rNe ta tb) σ H (.bl (!decide (a = b))) := ev_is (ev_op ha hb (rv_ne rfl)) (by rw [dS])
end
theorem fit_bools (bs : List Bool) (h : bs.length ≤ 1000) : Fit (.list (bs.map PyData.bool)) := by
  have h1 : PyData.showableAll (bs.map PyData.bool) = true := by
    clear h
    induction bs with
    | nil => rfl
    | cons b r ih => simp [PyData.showableAll, PyData.showable, ih]
  have h2 : PyData.leavesShortAll 40 (bs.map PyData.bool) = true := by
    clear h h1
    induction bs with
    | nil => rfl
    | cons b r ih => simp [PyData.leavesShortAll, PyData.leavesShort, ih]
  have h3 : PyData.bulkAll (bs.map PyData.bool) = bs.length := by
    clear h h1 h2
    induction bs with
    | nil => rfl
    | cons b r ih => simp [PyData.bulkAll, PyData.bulk, ih]; omega
  have h4 : PyData.depthAll (bs.map PyData.bool) = 0 := by
    clear h h1 h2 h3
    induction bs with
    | nil => rfl
    | cons b r ih => simp [PyData.depthAll, PyData.depth, ih]
  exact ⟨by simpa [PyData.showable] using h1, by simpa [PyData.leavesShort] using h2, by simp only [PyData.bulk, h3]; omega, by simp only [PyData.depth, h4]; omega⟩
theorem dx_bools {K : Fg} {H : Hp} : ∀ bs : List Bool, DxAll K H (bs.map V.bl) (bs.map PyData.bool)
  | [] => .nil
  | b :: r => .cons (.bl b) (dx_bools r)

section
open Evl
variable {K : Fg} {σ : L2.St} {H H' : Hp} {te : TE} {D : Ends} {tz : TS}
theorem s_asgM {i : Nat} {xs : List V} (h : EvM te σ H xs) (k : ∀ p H1, H p = none → p ≠ sysModules → Ex H H1 → H1 p = some (.lst xs) → D.nx (σ.set i (some (.ref p))) H1) : tAsg te (gName i) D σ H :=
  h H (Ex.refl H) _ fun p H1 hp ne e h1 => k p H1 hp ne e h1
theorem q_asgM {i : Nat} {xs : List V} (h : EvM te σ H xs) (k : ∀ p H1, H p = none → p ≠ sysModules → Ex H H1 → H1 p = some (.lst xs) → tz D (σ.set i (some (.ref p))) H1) : tSeq (tAsg te (gName i)) tz D σ H :=
  s_asgM (D := { D with nx := tz D }) h k
end
/-! ### a text, or another thing -/
inductive TStr (H : Hp) : V → Bool → Prop where
  | s (z : Str) (hz : z.length ≤ 1000) : TStr H (.str z) true
  | o {x : V} (h : Oth H x) : TStr H x false
def zof : V → Str
  | .str z => z
  | _ => ⟨#[]⟩
theorem TStr.same {H H' : Hp} {x : V} {b : Bool} (h : TStr H x b) (s : Same H H') : TStr H' x b := by
  cases h with
  | s z hz => exact .s z hz
  | o h => exact .o (h.same s)
theorem TStr.eq {H : Hp} {x : V} (h : TStr H x true) : x = .str (zof x) ∧ (zof x).length ≤ 1000 := by
  cases h with
  | s z hz => exact ⟨rfl, hz⟩
section
open Evl
variable {K : Fg} {σ : L2.St} {H H' : Hp} {ta : TE}
theorem ev_isiX {x : V} {b : Bool} (ha : Ev ta σ H x) (hx : TStr H x b) : Ev (tCB (rIsi K) (tCons ta (tCons (tC (.ty "str")) tNil))) σ H (.bl b) := by
  cases hx with
  | s z hz => exact ev_isiS ha (kit_ty (by decide +kernel))
  | o h => exact ev_isiO ha h
end

/-! ### texts of low signs -/
/-- a text of at most n signs, all low -/
structure Lo (z : Str) (n : Nat) : Prop where
  len : z.length ≤ n
  low : ∀ c ∈ z.cps.toList, c < 1000
theorem Lo.up {z : Str} {n m : Nat} (h : Lo z n) (le : n ≤ m) : Lo z m := ⟨Nat.le_trans h.len le, h.low⟩
theorem lo_by {z : Str} {n : Nat} (h : (decide (z.length ≤ n) && z.cps.toList.all fun c => decide (c < 1000)) = true) : Lo z n := by
  simp only [Bool.and_eq_true, decide_eq_true_eq, List.all_eq_true] at h
  exact ⟨h.1, h.2⟩
theorem Lo.app {y z : Str} {n m : Nat} (hy : Lo y n) (hz : Lo z m) : Lo (y ++ z) (n + m) := by
  refine ⟨?_, fun c hc => ?_⟩
  · rw [strLen_append]
    have := hy.len
    have := hz.len
    omega
  · rcases mem_cps_append.mp hc with h | h
    · exact hy.low c h
    · exact hz.low c h
theorem Lo.cut {z : Str} {n : Nat} (h : Lo z n) (lo hi : Option Int) : Lo (cutS z lo hi) n :=
  ⟨Nat.le_trans (cutS_length z lo hi) h.len, fun c hc => h.low c (List.mem_of_mem_drop (List.mem_of_mem_take (by simpa [cutS] using hc)))⟩
theorem Lo.sign {z : Str} {n c : Nat} (h : Lo z n) (hc : c ∈ z.cps.toList) : Lo ⟨#[c]⟩ 1 := ⟨Nat.le_refl 1, fun d hd => by
  have e : d = c := by simpa using hd
  rw [e]
  exact h.low c hc⟩
theorem Lo.fit {z : Str} {n : Nat} (h : Lo z n) (hn : n ≤ 200000) : Fit (.str z) := by
  refine ⟨by simp [PyData.showable], ?_, ?_, by simp [PyData.depth]⟩
  · simp only [PyData.leavesShort, List.all_eq_true, decide_eq_true_eq]
    exact fun c hc => Nat.lt_trans (h.low c hc) (by decide)
  · have h1 := h.len
    have e : z.length = z.cps.size := rfl
    simp only [PyData.bulk]
    omega
theorem tl_eq (z : Str) : TL.tl z = z.cps.toList := rfl
theorem joinL_nil : ∀ ls : List (List Nat), TL.joinL [] ls = ls.flatten
  | [] => rfl
  | [p] => by simp [TL.joinL]
  | p :: q :: r => by
    have ih := joinL_nil (q :: r)
    show p ++ ([] ++ TL.joinL [] (q :: r)) = _
    rw [ih]
    simp
theorem join_codes (ys : List Str) : (Txt.join ⟨#[]⟩ ys).cps.toList = (ys.map fun y => y.cps.toList).flatten := by
  rw [TL.join_eq]
  show TL.tl _ = _
  rw [TL.tl_join, show TL.tl ⟨#[]⟩ = [] from rfl, joinL_nil]
theorem flat_len {ls : List (List Nat)} {m : Nat} (h : ∀ l ∈ ls, l.length ≤ m) : ls.flatten.length ≤ m * ls.length := by
  induction ls with
  | nil => simp
  | cons l r ih =>
    have h1 := h l (List.mem_cons_self ..)
    have h2 := ih fun x hx => h x (List.mem_cons_of_mem _ hx)
    rw [List.flatten_cons, List.length_append, List.length_cons, Nat.mul_succ]
    omega
theorem lo_join {ys : List Str} {m n : Nat} (h : ∀ y ∈ ys, Lo y m) (hn : ys.length ≤ n) : Lo (Txt.join ⟨#[]⟩ ys) (m * n) := by
  refine ⟨?_, fun c hc => ?_⟩
  · have e : (Txt.join ⟨#[]⟩ ys).length = ((ys.map fun y => y.cps.toList).flatten).length := by rw [← join_codes]; simp [Str.length]
    rw [e]
    refine Nat.le_trans (flat_len (m := m) fun l hl => ?_) ?_
    · obtain ⟨y, hy, rfl⟩ := List.mem_map.mp hl
      have := (h y hy).len
      simpa [Str.length] using this
    · rw [List.length_map]
      exact Nat.mul_le_mul_left m hn
  · rw [join_codes] at hc
    obtain ⟨l, hl, hc⟩ := List.mem_flatten.mp hc
    obtain ⟨y, hy, rfl⟩ := List.mem_map.mp hl
    exact (h y hy).low c hc
theorem sum_le {ys : List Str} {m : Nat} (h : ∀ y ∈ ys, y.length ≤ m) : (ys.map (·.length)).sum ≤ m * ys.length := by
  induction ys with
  | nil => simp
  | cons y r ih =>
    have h1 := h y (List.mem_cons_self ..)
    have h2 := ih fun x hx => h x (List.mem_cons_of_mem _ hx)
    rw [List.map_cons, List.sum_cons, List.length_cons, Nat.mul_succ]
    omega
def fitB (d : PyData) : Bool := d.showable && (d.leavesShort 40 && (decide (d.bulk ≤ 300000) && decide (d.depth ≤ 30)))
theorem fit_of {d : PyData} (h : fitB d = true) : Fit d := by
  unfold fitB at h
  simp only [Bool.and_eq_true, decide_eq_true_eq] at h
  exact ⟨h.1, h.2.1, h.2.2.1, h.2.2.2⟩
section
open Evl
variable {σ : L2.St} {H : Hp} {ta tb : TE}
theorem ev_addS {a b : Str} (ha : Ev ta σ H (.str a)) (hb : Ev tb σ H (.str b)) (hz : a.length + b.length ≤ 100000) :
    Ev (tOp (fun x y H Q => ∃ i j : Str, x = .str i ∧ y = .str j ∧ i.length + j.length ≤ sizeLine ∧ Q (.str (i ++ j)) H) ta tb) σ H (.str (a ++ b)) := fun H1 e Q q =>
  ha H1 e _ fun H2 e2 => hb H2 (e.trans e2) _ fun H3 e3 => ⟨a, b, rfl, rfl, sz_of hz, q H3 (e2.trans e3)⟩
end

/-! ### drawing -/
def PM : Int := 2305843009213693951
theorem pP : (0 : Int) < 2305843009213693951 := by decide
theorem pP2 : (0 : Int) < 2305843009213693921 := by decide
/-- a bag at b: digits, a seed, how often it was asked (at most n) -/
def BagAt (H : Hp) (b : Addr) (n : Nat) : Prop := ∃ d x c : Int, H b = some (.lst [.int d, .int x, .int c]) ∧ 0 ≤ d ∧ 0 ≤ x ∧ x < PM ∧ 0 ≤ c ∧ c ≤ n
theorem BagAt.up {H : Hp} {b : Addr} {n m : Nat} (h : BagAt H b n) (le : n ≤ m) : BagAt H b m := by
  obtain ⟨d, x, c, e, h1, h2, h3, h4, h5⟩ := h
  exact ⟨d, x, c, e, h1, h2, h3, h4, by omega⟩
theorem BagAt.to {H H' : Hp} {b : Addr} {n : Nat} (h : BagAt H b n) (e : H' b = H b) : BagAt H' b n := by
  obtain ⟨d, x, c, q, r⟩ := h
  exact ⟨d, x, c, e.trans q, r⟩
theorem BagAt.same {H H' : Hp} {b : Addr} {n : Nat} (h : BagAt H b n) (s : Same H H') : BagAt H' b n := by
  obtain ⟨d, x, c, q, r⟩ := h
  exact ⟨d, x, c, s _ _ q, r⟩
/-- nothing but b was touched -/
def But (b : Addr) (H H' : Hp) : Prop := ∀ p, p ≠ b → H' p = H p
def spBag (K : Fg) : Sp := fun vs H Q _ => ∃ (a : Addr) (ns : List Int) (i : Nat), vs = [.ref a, .int i] ∧ SqL K H a (ns.map V.int) ∧ i ≤ 100 ∧
  ∀ p H', H p = none → BagAt H' p 0 → Same H H' → Q (.ref p) H'
def spTake : Sp := fun vs H Q _ => ∃ (b : Addr) (m : Int) (n : Nat), vs = [.ref b, .int m] ∧ BagAt H b n ∧ n ≤ 1000000000 ∧ 0 < m ∧ m < 1000000 ∧
  ∀ (r : Int) (H' : Hp), 0 ≤ r → r < m → BagAt H' b (n + 1) → But b H H' → Q (.int r) H'

/-- the drawing part of a state: all of M stands, the bag stands at b beside it -/
structure Dr (M : Hp) (b : Addr) (n : Nat) (H : Hp) : Prop where
  same : Same M H
  fr : M b = none
  bag : BagAt H b n
section
variable {M : Hp} {b p : Addr} {n m : Nat} {H H' : Hp} {o : HO}
theorem Dr.ne (h : Dr M b n H) (q : H p = none) : p ≠ b := by
  obtain ⟨d, x, c, e, _⟩ := h.bag
  exact (ne_of_none e q).symm
theorem Dr.neM (h : Dr M b n H) {x : Addr} {u : HO} (q : M x = some u) : x ≠ b := ne_of_none q h.fr
theorem Dr.take (h : Dr M b n H) (hb : BagAt H' b m) (ht : But b H H') : Dr M b m H' :=
  ⟨fun x u e => (ht x (h.neM e)).trans (h.same x u e), h.fr, hb⟩
theorem Dr.on (h : Dr M b n H) (s : Same H H') : Dr M b n H' := ⟨h.same.trans s, h.fr, h.bag.same s⟩
theorem Dr.new (h : Dr M b n H) (q : H p = none) : Dr (upd M p o) b n (upd H p o) := by
  refine ⟨fun x u e => ?_, ?_, h.bag.to (upd_ne (h.ne q).symm)⟩
  · by_cases hx : x = p
    · subst hx
      rw [upd_same] at e ⊢
      exact e
    · rw [upd_ne hx] at e ⊢
      exact h.same x u e
  · rw [upd_ne (h.ne q).symm]
    exact h.fr
theorem Dr.mut (h : Dr M b n H) (q : M p = none) (ne : p ≠ b) : Dr M b n (upd H p o) := by
  refine ⟨fun x u e => ?_, h.fr, h.bag.to (upd_ne ne.symm)⟩
  rw [upd_ne (ne_of_none e q)]
  exact h.same x u e
theorem Dr.up (h : Dr M b n H) (le : n ≤ m) : Dr M b m H := ⟨h.same, h.fr, h.bag.up le⟩
theorem Dr.less {M' : Hp} (h : Dr M b n H) (s : Same M' M) : Dr M' b n H := ⟨s.trans h.same, s.free h.fr, h.bag⟩
theorem Dr.free (h : Dr M b n H) (q : H p = none) : M p = none := h.same.free q
/-- all but the bag stays -/
theorem Dr.kb (h : Dr M b n H) (hb : BagAt H' b m) (ht : ∀ x u, x ≠ b → H x = some u → H' x = some u) : Dr M b m H' :=
  ⟨fun x u e => ht x u (h.neM e) (h.same x u e), h.fr, hb⟩
end

/-! ### how often the laws turn -/
def turnsN (n : Int) : Int := if (if n < 6 then n else 6) > 2 then (if n < 6 then n else 6) else 2
theorem turns_le (n : Int) : 0 ≤ turnsN n ∧ turnsN n ≤ 6 := by
  unfold turnsN
  split <;> split <;> omega
section
open Evl
variable {σ : L2.St} {H : Hp} {ta tb : TE}
theorem ev_min2 {i j : Int} (ha : Ev ta σ H (.int i)) (hb : Ev tb σ H (.int j)) : Ev (tCB (fun xs H Q => ∃ i j, xs = [.int i, .int j] ∧ Q (.int (if j < i then j else i)) H) (tCons ta (tCons tb tNil))) σ H (.int (if j < i then j else i)) := fun H1 e Q q =>
  ha H1 e _ fun H2 e2 => hb H2 (e.trans e2) _ fun H3 e3 => ⟨i, j, rfl, q H3 (e2.trans e3)⟩
theorem ev_lenL {K : Fg} {a : Addr} {xs : List V} (ha : Ev ta σ H (.ref a)) (hs : SqL K H a xs) :
    Ev (tCB (fun ys H Q => ∃ p zs, ys = [.ref p] ∧ (SqL K H p zs ∨ SqT K H p zs) ∧ Q (.int zs.length) H) (tCons ta tNil)) σ H (.int (xs.length : Int)) := fun H1 e Q q =>
  ha H1 e _ fun H2 e2 => ⟨a, xs, rfl, .inl (ex_l (e.trans e2) hs), q H2 e2⟩
end
theorem atI_some {α : Type} {xs : List α} {r : Int} (h0 : 0 ≤ r) (h1 : r < xs.length) : ∃ v, atI xs r = some v ∧ v ∈ xs := by
  obtain ⟨j, rfl⟩ : ∃ j : Nat, r = (j : Int) := ⟨r.toNat, by omega⟩
  have hj : j < xs.length := by omega
  exact ⟨xs[j], atI_nat (List.getElem?_eq_getElem hj), List.getElem_mem hj⟩

theorem Cal.up {P : Program} {w : World} {K : Fg} {mg : Str → Option Value} {base : Heap} {CX : CXT} {j k : Nat} {x : Str} {ps : List Str} {sp : Sp} {f : Addr} {fd : FuncData} (C : Cal P w K mg base CX j x ps sp f fd) (h : j ≤ k) :
    Cal P w K mg base CX k x ps sp f fd := ⟨C.ok.mono h, C.mg, C.kp, C.b⟩
theorem CalG.up {P : Program} {w : World} {K : Fg} {mg : Str → Option Value} {base : Heap} {CX : CXT} {j k : Nat} {x : Str} {ps : List Str} {sp : Sp} {f : Addr} {fd : FuncData} (C : CalG P w K mg base CX j x ps sp f fd) (h : j ≤ k) :
    CalG P w K mg base CX k x ps sp f fd := ⟨C.ok.up h, C.mg, C.kp, C.b⟩
end Nm

set_option Elab.async false
set_option linter.all false
/-! The mathematics of keys, on lists of codes. -/
namespace Nm
/-! ### folds and marks -/
abbrev Fds := List (Nat × List Nat)
abbrev Mks := List (Nat × Int)
def lk {α : Type} (l : List (Nat × α)) (c : Nat) : Option α := (l.find? fun p => decide (p.1 = c)).map (·.2)
theorem lk_mem {α : Type} {l : List (Nat × α)} {c : Nat} {x : α} (h : lk l c = some x) : (c, x) ∈ l := by
  unfold lk at h
  obtain ⟨p, hp, e⟩ := Option.map_eq_some_iff.mp h
  have h1 := List.find?_some hp
  have h2 := List.mem_of_find?_eq_some hp
  have h3 : p.1 = c := of_decide_eq_true h1
  rw [← h3, ← e]
  exact h2
theorem lk_none {α : Type} {l : List (Nat × α)} {c : Nat} : lk l c = none ↔ ∀ p ∈ l, p.1 ≠ c := by
  unfold lk
  rw [Option.map_eq_none_iff, List.find?_eq_none]
  constructor
  · intro h p hp e
    exact h p hp (decide_eq_true e)
  · intro h p hp e
    exact h p hp (of_decide_eq_true e)
theorem lk_isSome {α : Type} {l : List (Nat × α)} {c : Nat} : (lk l c).isSome = decide (c ∈ l.map (·.1)) := by
  cases h : lk l c with
  | none =>
    have := lk_none.mp h
    symm
    simp only [Option.isSome_none, decide_eq_false_iff_not]
    intro m
    obtain ⟨p, hp, e⟩ := List.mem_map.mp m
    exact this p hp e
  | some x =>
    symm
    simp only [Option.isSome_some, decide_eq_true_eq]
    exact List.mem_map.mpr ⟨_, lk_mem h, rfl⟩
theorem lk_of_mem {α : Type} : ∀ {l : List (Nat × α)} {c : Nat} {x : α}, (l.map (·.1)).Nodup → (c, x) ∈ l → lk l c = some x
  | p :: l, c, x, hn, hm => by
    rw [List.map_cons, List.nodup_cons] at hn
    rcases List.mem_cons.mp hm with e | m
    · subst e
      simp [lk]
    · have ne : ¬ p.1 = c := fun e => hn.1 (by rw [e]; exact List.mem_map.mpr ⟨_, m, rfl⟩)
      have ih := lk_of_mem hn.2 m
      unfold lk at ih ⊢
      rw [List.find?_cons, decide_eq_false ne]
      exact ih
/-! ### the folding -/
def foldC (fs : Fds) (c : Nat) : List Nat := (lk fs c).getD [c]
def foldL (fs : Fds) (l : List Nat) : List Nat := (l.map (foldC fs)).flatten
theorem foldL_nil {fs : Fds} : foldL fs [] = [] := rfl
theorem foldL_cons {fs : Fds} {c : Nat} {l : List Nat} : foldL fs (c :: l) = foldC fs c ++ foldL fs l := rfl
theorem foldL_app {fs : Fds} {a b : List Nat} : foldL fs (a ++ b) = foldL fs a ++ foldL fs b := by simp [foldL]
theorem foldL_id {fs : Fds} : ∀ {l : List Nat}, (∀ c ∈ l, lk fs c = none) → foldL fs l = l
  | [], _ => rfl
  | c :: l, h => by
    rw [foldL_cons, foldL_id fun d hd => h d (List.mem_cons_of_mem _ hd)]
    simp [foldC, h c (List.mem_cons_self ..)]
/-! ### the ordering of marks -/
def runS (ms : Mks) (run : List Nat) : List Nat := run.filter (fun c => decide (lk ms c = some 1)) ++ (run.filter (fun c => decide (lk ms c = some 2)) ++ run.filter (fun c => decide (lk ms c = some 3)))
def isM (ms : Mks) (c : Nat) : Bool := (lk ms c).isSome
def ordL (ms : Mks) : List Nat → List Nat → List Nat
  | [], run => runS ms run
  | c :: r, run => if isM ms c then ordL ms r (run ++ [c]) else runS ms run ++ c :: ordL ms r []
def keyL (fs : Fds) (ms : Mks) (l : List Nat) : List Nat := ordL ms (foldL fs l) []
theorem ordL_mark {ms : Mks} {c : Nat} {r run : List Nat} (h : isM ms c = true) : ordL ms (c :: r) run = ordL ms r (run ++ [c]) := by simp [ordL, h]
theorem ordL_sign {ms : Mks} {c : Nat} {r run : List Nat} (h : isM ms c = false) : ordL ms (c :: r) run = runS ms run ++ c :: ordL ms r [] := by simp [ordL, h]
theorem runS_congr {ms : Mks} {a b : List Nat} (h : ∀ k : Int, a.filter (fun c => decide (lk ms c = some k)) = b.filter (fun c => decide (lk ms c = some k))) : runS ms a = runS ms b := by
  unfold runS
  rw [h 1, h 2, h 3]
theorem ordL_congr {ms : Mks} : ∀ {r a b : List Nat}, (∀ k : Int, a.filter (fun c => decide (lk ms c = some k)) = b.filter (fun c => decide (lk ms c = some k))) → ordL ms r a = ordL ms r b
  | [], a, b, h => runS_congr h
  | c :: r, a, b, h => by
    cases hm : isM ms c with
    | true =>
      rw [ordL_mark hm, ordL_mark hm]
      exact ordL_congr fun k => by rw [List.filter_append, List.filter_append, h k]
    | false => rw [ordL_sign hm, ordL_sign hm, runS_congr h]
/-- two neighbouring marks of unlike classes may change places -/
theorem ordL_swap {ms : Mks} {x y : Int} {a b : Nat} (ha : lk ms a = some x) (hb : lk ms b = some y) (ne : x ≠ y) : ∀ {l r run : List Nat}, ordL ms (l ++ a :: b :: r) run = ordL ms (l ++ b :: a :: r) run
  | [], r, run => by
    have m1 : isM ms a = true := by simp [isM, ha]
    have m2 : isM ms b = true := by simp [isM, hb]
    rw [List.nil_append, List.nil_append, ordL_mark m1, ordL_mark m2, ordL_mark m2, ordL_mark m1]
    refine ordL_congr fun k => ?_
    have e : ∀ u v : Nat, (run ++ [u] ++ [v]).filter (fun c => decide (lk ms c = some k)) = run.filter (fun c => decide (lk ms c = some k)) ++ [u, v].filter (fun c => decide (lk ms c = some k)) := fun u v => by
      rw [List.append_assoc, List.filter_append]
      rfl
    rw [e, e]
    congr 1
    by_cases h1 : x = k
    · have h2 : ¬ y = k := fun e => ne (h1.trans e.symm)
      simp [List.filter, ha, hb, h1, h2]
    · simp [List.filter, ha, hb, h1]
  | c :: l, r, run => by
    have ih := fun run => ordL_swap ha hb ne (l := l) (r := r) (run := run)
    rw [List.cons_append, List.cons_append]
    cases hm : isM ms c with
    | true => rw [ordL_mark hm, ordL_mark hm, ih]
    | false => rw [ordL_sign hm, ordL_sign hm, ih]
/-- neighbours that fall -/
def fall (ms : Mks) (a b : Nat) : Bool := match lk ms a, lk ms b with
  | some x, some y => decide (y < x)
  | _, _ => false
theorem fall_some {ms : Mks} {a b : Nat} (h : fall ms a b = true) : ∃ x y, lk ms a = some x ∧ lk ms b = some y ∧ y < x := by
  unfold fall at h
  split at h
  · rename_i x y h1 h2
    exact ⟨x, y, h1, h2, of_decide_eq_true h⟩
  · cases h
theorem not_fall {ms : Mks} {a b : Nat} {x y : Int} (h : fall ms a b = false) (ha : lk ms a = some x) (hb : lk ms b = some y) : x ≤ y := by
  unfold fall at h
  rw [ha, hb] at h
  have := of_decide_eq_false h
  omega
def okM (ms : Mks) : Prop := ∀ c x, lk ms c = some x → x = 1 ∨ x = 2 ∨ x = 3
/-- no neighbours fall -/
def still (ms : Mks) : List Nat → Prop
  | a :: b :: r => fall ms a b = false ∧ still ms (b :: r)
  | _ => True
theorem still_tail {ms : Mks} {a : Nat} {l : List Nat} (h : still ms (a :: l)) : still ms l := by
  cases l with
  | nil => trivial
  | cons b r => exact h.2
/-- a run of marks that climbs -/
theorem runS_up {ms : Mks} (ok : okM ms) : ∀ {l : List Nat}, (∀ c ∈ l, isM ms c = true) → l.Pairwise (fun a b => ∀ x y, lk ms a = some x → lk ms b = some y → x ≤ y) → runS ms l = l
  | [], _, _ => rfl
  | c :: l, hm, hp => by
    obtain ⟨h1, h2⟩ := List.pairwise_cons.mp hp
    have ih := runS_up ok (fun d hd => hm d (List.mem_cons_of_mem _ hd)) h2
    have hc := hm c (List.mem_cons_self ..)
    obtain ⟨x, hx⟩ := Option.isSome_iff_exists.mp hc
    have none_of : ∀ k : Int, k < x → l.filter (fun c => decide (lk ms c = some k)) = [] := by
      intro k hk
      rw [List.filter_eq_nil_iff]
      intro d hd e
      have := h1 d hd x k hx (of_decide_eq_true e)
      omega
    unfold runS at ih ⊢
    rcases ok c x hx with rfl | rfl | rfl
    · simp only [List.filter_cons, hx]
      simp
      exact ih
    · rw [none_of 1 (by omega)] at ih
      simp only [List.filter_cons, hx]
      simp [none_of 1 (by omega)]
      simpa using ih
    · rw [none_of 1 (by omega), none_of 2 (by omega)] at ih
      simp only [List.filter_cons, hx]
      simp [none_of 1 (by omega), none_of 2 (by omega)]
      simpa using ih
/-- what is still is its own key -/
theorem ordL_still {ms : Mks} (ok : okM ms) : ∀ {l run : List Nat}, (∀ c ∈ run, isM ms c = true) → run.Pairwise (fun a b => ∀ x y, lk ms a = some x → lk ms b = some y → x ≤ y) → still ms l →
    (∀ a ∈ run, ∀ b, l.head? = some b → ∀ x y, lk ms a = some x → lk ms b = some y → x ≤ y) → ordL ms l run = run ++ l
  | [], run, hr, hp, _, _ => by
    show runS ms run = _
    rw [runS_up ok hr hp, List.append_nil]
  | c :: l, run, hr, hp, hs, hb => by
    cases hm : isM ms c with
    | true =>
      rw [ordL_mark hm, ordL_still ok (run := run ++ [c]) ?_ ?_ (still_tail hs) ?_]
      · simp
      · intro d hd
        rcases List.mem_append.mp hd with h | h
        · exact hr d h
        · rw [List.mem_singleton.mp h]
          exact hm
      · rw [List.pairwise_append]
        refine ⟨hp, List.pairwise_singleton .., fun a ha b hb' => ?_⟩
        rw [List.mem_singleton.mp hb']
        exact hb a ha c rfl
      · obtain ⟨z, hz⟩ := Option.isSome_iff_exists.mp hm
        intro a ha b hb' x y hx hy
        cases l with
        | nil => cases hb'
        | cons d l =>
          have e : d = b := by simpa using hb'
          subst e
          have hzy : z ≤ y := not_fall hs.1 hz hy
          rcases List.mem_append.mp ha with h | h
          · have := hb a h c rfl x z hx hz
            omega
          · rw [List.mem_singleton.mp h, hz] at hx
            cases hx
            exact hzy
    | false =>
      rw [ordL_sign hm, runS_up ok hr hp, ordL_still ok (run := []) (fun _ h => nomatch h) List.Pairwise.nil (still_tail hs) (fun _ h => nomatch h)]
      rfl
theorem ordL_id {ms : Mks} (ok : okM ms) {l : List Nat} (h : still ms l) : ordL ms l [] = l :=
  ordL_still ok (fun _ h => nomatch h) List.Pairwise.nil h (fun _ h => nomatch h)
/-! ### how far it is from still: falls at any distance -/
def fallsC (ms : Mks) (a : Nat) (l : List Nat) : Nat := (l.filter (fun b => fall ms a b)).length
def falls (ms : Mks) : List Nat → Nat
  | [] => 0
  | a :: l => fallsC ms a l + falls ms l
theorem falls_swap {ms : Mks} {a b : Nat} (h : fall ms a b = true) : ∀ {l r : List Nat}, falls ms (l ++ b :: a :: r) + 1 = falls ms (l ++ a :: b :: r)
  | [], r => by
    obtain ⟨x, y, hx, hy, lt⟩ := fall_some h
    have h2 : fall ms b a = false := by
      unfold fall
      rw [hx, hy]
      exact decide_eq_false (by omega)
    simp only [List.nil_append, falls, fallsC, List.filter_cons, h, h2, if_true, if_false, List.length_cons, Bool.false_eq_true]
    omega
  | c :: l, r => by
    have ih := falls_swap h (l := l) (r := r)
    have e : fallsC ms c (l ++ b :: a :: r) = fallsC ms c (l ++ a :: b :: r) := by
      simp only [fallsC, List.filter_append, List.filter_cons, List.length_append]
      split <;> split <;> simp
    simp only [List.cons_append, falls, e]
    omega
/-- the places of neighbours that fall -/
theorem still_of {ms : Mks} : ∀ {l : List Nat}, (∀ i a b, l[i]? = some a → l[i + 1]? = some b → fall ms a b = false) → still ms l
  | [], _ => trivial
  | [_], _ => trivial
  | a :: b :: r, h => ⟨h 0 a b rfl rfl, still_of fun i x y hx hy => h (i + 1) x y (by simpa using hx) (by simpa using hy)⟩
theorem split_at {l : List Nat} {i : Nat} {a b : Nat} (h1 : l[i]? = some a) (h2 : l[i + 1]? = some b) : l = l.take i ++ a :: b :: l.drop (i + 2) := by
  obtain ⟨h3, e3⟩ := List.getElem?_eq_some_iff.mp h2
  obtain ⟨h4, e4⟩ := List.getElem?_eq_some_iff.mp h1
  conv => lhs; rw [← List.take_append_drop i l]
  rw [List.drop_eq_getElem_cons h4, List.drop_eq_getElem_cons h3, e3, e4]
theorem set_swap {l : List Nat} {i : Nat} {a b : Nat} (h1 : l[i]? = some a) (h2 : l[i + 1]? = some b) : (l.set i b).set (i + 1) a = l.take i ++ b :: a :: l.drop (i + 2) := by
  obtain ⟨h3, e3⟩ := List.getElem?_eq_some_iff.mp h2
  have hl : (l.take i).length = i := by rw [List.length_take]; omega
  conv => lhs; rw [split_at h1 h2]
  rw [List.set_append_right _ _ (by omega), hl, Nat.sub_self, List.set_cons_zero, List.set_append_right _ _ (by omega), hl]
  simp
/-! ### what the key is made of -/
theorem mem_runS {ms : Mks} {run : List Nat} {c : Nat} (h : c ∈ runS ms run) : c ∈ run := by
  unfold runS at h
  simp only [List.mem_append, List.mem_filter] at h
  rcases h with h | h | h <;> exact h.1
theorem mem_ordL {ms : Mks} : ∀ {l run : List Nat} {c : Nat}, c ∈ ordL ms l run → c ∈ run ∨ c ∈ l
  | [], run, c, h => .inl (mem_runS h)
  | d :: l, run, c, h => by
    cases hm : isM ms d with
    | true =>
      rw [ordL_mark hm] at h
      rcases mem_ordL h with q | q
      · rcases List.mem_append.mp q with q | q
        · exact .inl q
        · exact .inr (by rw [List.mem_singleton.mp q]; exact List.mem_cons_self ..)
      · exact .inr (List.mem_cons_of_mem _ q)
    | false =>
      rw [ordL_sign hm] at h
      rcases List.mem_append.mp h with q | q
      · exact .inl (mem_runS q)
      · rcases List.mem_cons.mp q with q | q
        · exact .inr (by rw [q]; exact List.mem_cons_self ..)
        · rcases mem_ordL q with q | q
          · cases q
          · exact .inr (List.mem_cons_of_mem _ q)
theorem len_runS {ms : Mks} (ok : okM ms) : ∀ {run : List Nat}, (∀ c ∈ run, isM ms c = true) → (runS ms run).length = run.length
  | [], _ => rfl
  | c :: l, h => by
    have ih := len_runS ok (run := l) fun d hd => h d (List.mem_cons_of_mem _ hd)
    obtain ⟨x, hx⟩ := Option.isSome_iff_exists.mp (h c (List.mem_cons_self ..))
    unfold runS at ih ⊢
    simp only [List.length_append] at ih
    rcases ok c x hx with rfl | rfl | rfl <;> simp [List.filter_cons, hx] <;> omega
theorem len_ordL {ms : Mks} (ok : okM ms) : ∀ {l run : List Nat}, (∀ c ∈ run, isM ms c = true) → (ordL ms l run).length = run.length + l.length
  | [], run, h => by
    show (runS ms run).length = _
    rw [len_runS ok h]
    rfl
  | d :: l, run, h => by
    cases hm : isM ms d with
    | true =>
      rw [ordL_mark hm, len_ordL ok (run := run ++ [d])]
      · simp; omega
      · intro c hc
        rcases List.mem_append.mp hc with q | q
        · exact h c q
        · rw [List.mem_singleton.mp q]; exact hm
    | false =>
      rw [ordL_sign hm, List.length_append, len_runS ok h, List.length_cons, len_ordL ok (run := []) (fun _ h => nomatch h)]
      simp
end Nm

set_option Elab.async false
set_option linter.all false
set_option maxRecDepth 100000
set_option maxHeartbeats 4000000
/-! Rules of our own for tables: texts taken apart, put together, sorted; instances called within a try; errors with a field; dicts, properties as evaluations. -/
namespace Nm
open PySem PySem.Spec PyProof.Rows L2
/-! ### texts and their signs -/
def sgS (c : Nat) : Str := ⟨#[c]⟩
def sgs (l : List Nat) : List V := l.map fun c => V.str (sgS c)
def stL (l : List Nat) : Str := ⟨l.toArray⟩
theorem stL_codes (l : List Nat) : (stL l).cps.toList = l := by simp [stL]
theorem stL_of (z : Str) : stL z.cps.toList = z := Str.ext' (by simp [stL])
theorem stL_len (l : List Nat) : (stL l).length = l.length := by simp [stL, Str.length]
theorem stL_inj {a b : List Nat} (h : stL a = stL b) : a = b := by
  have := congrArg (fun z : Str => z.cps.toList) h
  simpa [stL] using this
theorem stL_app (a b : List Nat) : stL a ++ stL b = stL (a ++ b) := by
  refine Str.ext' (Array.toList_inj.mp ?_)
  have h : (stL a ++ stL b).cps = (stL a).cps ++ (stL b).cps := rfl
  rw [h]
  simp [stL]
theorem sgS_stL (c : Nat) : sgS c = stL [c] := rfl
theorem sgs_len (l : List Nat) : (sgs l).length = l.length := by simp [sgs]
theorem sgs_strs (l : List Nat) : sgs l = (l.map sgS).map V.str := by rw [List.map_map]; rfl
theorem join_sgs (l : List Nat) : Txt.join ⟨#[]⟩ (l.map sgS) = stL l := by
  refine Str.ext' (Array.toList_inj.mp ?_)
  rw [join_codes, stL_codes, List.map_map]
  induction l with
  | nil => rfl
  | cons c r ih =>
    rw [List.map_cons, List.flatten_cons, ih]
    rfl
theorem sum_sgs (l : List Nat) : ((l.map sgS).map (·.length)).sum = l.length := by
  induction l with
  | nil => rfl
  | cons c r ih =>
    rw [List.map_cons, List.map_cons, List.sum_cons, ih, List.length_cons]
    show 1 + _ = _
    omega
section
variable {X : Cx}
theorem vals_signs {z : Str} {us : List Value} (hl : us.length = z.cps.toList.length) (h : ∀ (j : Nat) (v : Value), us[j]? = some v → SignAt z j v) : Vals (sgs z.cps.toList) us := by
  rw [sgs_strs]
  refine vals_of_strs (strs_at (by rw [hl, List.length_map]) fun j v e => ?_)
  obtain ⟨c, u, hc, rfl⟩ := h j v e
  exact ⟨sgS c, u, by rw [List.getElem?_map, Array.getElem?_toList, hc]; rfl, rfl⟩
/-- list of a text -/
def rListT : List V → Hp → VK → Prop := fun xs H Q => ∃ z : Str, xs = [.str z] ∧ z.length ≤ 100000 ∧ ∀ p, H p = none → p ≠ sysModules → Q (.ref p) (upd H p (.lst (sgs z.cps.toList)))
theorem call_listT (hc : X.calm = true) : CallR X (.type "list") rListT := by
  rintro pins s σ H xs us Q I r ⟨z, rfl, hz, q⟩
  obtain ⟨u, rfl, ⟨t, rfl⟩⟩ := vals1 r
  refine call_list_str (I.ok.hd hc) z t (hn := Evl.sz_of hz) fun h' tk acc c k hS ha => ?_
  have hl : acc.toList.length = z.cps.toList.length := by rw [Array.length_toList, ha.1, Array.length_toList]
  have rv : Vals (sgs z.cps.toList) acc.toList := vals_signs hl fun j v e => ha.2 j v (by rw [← Array.getElem?_toList]; exact e)
  have hz' : (sgs z.cps.toList).length ≤ sizeLine := by rw [sgs_len, Array.length_toList]; exact Evl.sz_of hz
  exact ⟨.ref s.heap.objs.size, _, I.laid (t' := tk) k (Nat.le_refl _) (show ObjOk X.prog X.w _ h' _ (.lst (sgs z.cps.toList)) from ⟨hz', acc.toList, c, rv, by rw [Array.toArray_toList]; exact hS⟩), rfl, q _ (I.hok.fresh (Nat.le_refl _)) (Nat.ne_of_gt I.big)⟩
/-- a text some times -/
def repS (z : Str) (n : Nat) : Str := stL (List.replicate n z.cps.toList).flatten
theorem fold_cat (a : Array Nat) : ∀ (n : Nat) (b : Array Nat), ((List.replicate n a).foldl (· ++ ·) b).toList = b.toList ++ (List.replicate n a.toList).flatten
  | 0, b => by simp
  | n + 1, b => by
    rw [List.replicate_succ, List.foldl_cons, fold_cat a n, List.replicate_succ, List.flatten_cons]
    simp
def rMulT : R2 := fun x y H Q => ∃ (z : Str) (k : Int), x = .str z ∧ y = .int k ∧ 0 ≤ k ∧ k ≤ 1000 ∧ z.length ≤ 1000 ∧ Q (.str (repS z k.toNat)) H
theorem op_mulT : OpR X (binaryOp .Mult) rMulT := by
  intro pins s σ H x y v u Q I rx ry h
  obtain ⟨z, k, rfl, rfl, h0, h1, hz, q⟩ := h
  obtain ⟨t, rfl⟩ := rx
  obtain ⟨t', rfl⟩ := ry
  have hlen : z.length * k.toNat ≤ 1000000 := Nat.le_trans (Nat.mul_le_mul hz (show k.toNat ≤ 1000 by omega)) (by decide)
  have fin : ∀ (y : Str) (t : Tok) (s' : Shared), y = repS z k.toNat → Inv X pins σ H s' → EP X pins σ Q (.str y t) s' := fun y t s' e J => ⟨.str (repS z k.toNat), H, J, ⟨t, by rw [e]⟩, q⟩
  refine PySem.P.mul_str (by rw [decide_eq_false (show ¬ k < -(2 ^ 63 : Int) by omega), decide_eq_false (show ¬ k ≥ 2 ^ 63 by omega)]; rfl) (fun a _ b => ?_) (fun a _ => ?_) ?_
  · have h2 : (2 ^ 63 - 1 : Int) / k ≥ 1000 := by
      have : (1000 : Int) * k ≤ 2 ^ 63 - 1 := by omega
      exact (Int.le_ediv_iff_mul_le (by omega)).mpr this
    omega
  · exact decide_eq_false (by rw [sizeLine_eq]; omega)
  · have hE : ∀ n : Nat, (List.replicate n z.cps.toList).flatten.length = n * z.length := fun n => by
      simp [Str.length]
    by_cases hk : k < 1
    · rw [if_pos hk]
      have e0 : k.toNat = 0 := by omega
      refine ⟨by decide, fin _ _ _ ?_ (I.tok _)⟩
      rw [e0]
      rfl
    · rw [if_neg hk]
      by_cases h2 : (k == 1 || z.length == 0) = true
      · rw [if_pos h2]
        refine fin _ _ _ ?_ I
        rcases Bool.or_eq_true_iff.mp h2 with h3 | h3
        · have e1 : k.toNat = 1 := by have := beq_iff_eq.mp h3; omega
          rw [e1]
          unfold repS
          rw [List.replicate_one, List.flatten_cons, List.flatten_nil, List.append_nil, stL_of]
        · have e1 : z.cps.toList = [] := List.eq_nil_of_length_eq_zero (by rw [Array.length_toList]; exact beq_iff_eq.mp h3)
          have e2 : repS z k.toNat = stL [] := by
            unfold repS
            rw [e1]
            congr 1
            exact List.eq_nil_of_length_eq_zero (by simp)
          rw [e2, ← e1, stL_of]
      · rw [if_neg h2]
        refine ⟨?_, fin _ _ _ ?_ (I.tok _)⟩
        · have e := congrArg List.length (fold_cat z.cps k.toNat #[])
          have e2 := hE k.toNat
          rw [show (#[] : Array Nat).toList ++ (List.replicate k.toNat z.cps.toList).flatten = (List.replicate k.toNat z.cps.toList).flatten from rfl, e2, Array.length_toList] at e
          show (List.foldl (· ++ ·) #[] (List.replicate k.toNat z.cps)).size ≤ sizeLine
          rw [e, Nat.mul_comm, sizeLine_eq]
          omega
        · refine Str.ext' (Array.toList_inj.mp ?_)
          rw [fold_cat]
          simp [repS, stL]
end
end Nm

set_option Elab.async false
set_option linter.all false
set_option maxRecDepth 100000
set_option maxHeartbeats 4000000
namespace Nm
open PySem PySem.Spec PyProof.Rows L2
section
variable {X : Cx}
/-- sorted of a text of fewer than 64 signs: some order of its signs -/
def rSortT : List V → Hp → VK → Prop := fun xs H Q => ∃ z : Str, xs = [.str z] ∧ z.length < 64 ∧ ∀ ys p, ys.Perm (z.cps.toList.map sgS) → sortedS ys = true → H p = none → Q (.ref p) (upd H p (.lst (ys.map V.str)))
theorem call_sortT (hc : X.calm = true) : CallR X (.builtin "sorted") rSortT := by
  rintro pins s σ H xs us Q I r ⟨z, rfl, h64, q⟩
  obtain ⟨u, rfl, ⟨t, rfl⟩⟩ := vals1 r
  have hz : z.cps.toList.length < 64 := by rw [Array.length_toList]; exact h64
  refine Calls.call_function_entry kind_sorted plain_sorted entry_sorted (args_sorted1 _) ?_
  unfold Builtin.«sorted»
  refine wpAny_bind (m := checkCount "sorted" 1 1 _) (wpAny_pure ?_)
  refine wpAny_bind (wpAny_collect_str (A := X.A.in1) (hn := Evl.sz_of (by show z.length ≤ 100000; omega)) (I.ok.hd hc) z t fun s' acc hk hg hd ho ha => ?_)
  obtain ⟨h', g', d', tk, os'⟩ := s'
  obtain rfl : g' = s.gens := hg
  obtain rfl : d' = s.drawn := hd
  obtain rfl : os' = s.os := ho
  have hal : acc.toList.length = (z.cps.toList.map sgS).length := by rw [Array.length_toList, ha.1, List.length_map, Array.length_toList]
  have hS : StrsAre acc.toList (z.cps.toList.map sgS) := strs_at hal fun j v e => by
    obtain ⟨c, u, hc, rfl⟩ := ha.2 j v (by rw [← Array.getElem?_toList]; exact e)
    exact ⟨sgS c, u, by rw [List.getElem?_map, Array.getElem?_toList, hc]; rfl, rfl⟩
  have h6 : acc.toList.length < 64 := by rw [hal, List.length_map]; exact hz
  have I1 : Inv X pins σ H { s with heap := h', toks := tk } := I.kept hk
  refine wpAny_bind (wpAny_newList ?_ (by rw [sizeLine_eq]; omega))
  have hoL : (h'.push (seqObj "list" acc.toList.toArray 0)).get? h'.objs.size = some (seqObj "list" acc.toList.toArray 0) := Heap.get?_push_size _ rfl
  show wpAny _ _ _ _ _ { s with heap := h'.push (seqObj "list" acc.toList.toArray 0), toks := tk }
  refine wpAny_bind (wpAny_holding (wpAny_call_entry slot_list_sort ⟨_, hoL, rfl⟩ entry_list_sort
    (list_sort_treeK (s := { s with heap := h'.push (seqObj "list" acc.toList.toArray 0), toks := tk }) strKind_oneLt hoL hS.keysOf (fun v₁ v₂ rest e => keyKind_strs (by rw [← e]; exact hS)) h6 fun st' hp hs => ⟨_, rfl, ?_⟩)
    (args_list_sort _)))
  obtain ⟨ys, g1, g2, g3⟩ := sorted_out_str hS hp hs
  obtain ⟨e', he'⟩ := sortedHeap_at (vs := acc.toList) (out := (arrOf st').map (·.2)) hoL
  have hlen : (ys.map V.str).length ≤ sizeLine := by
    rw [List.length_map, g2.length_eq, List.length_map, sizeLine_eq]
    omega
  refine wpAny_pure ⟨_, rfl, .ref h'.objs.size, upd H h'.objs.size (.lst (ys.map V.str)), I1.laid (t' := tk) (fun b u e => ?_) (Nat.le_refl _)
    (show ObjOk X.prog X.w _ _ _ (.lst (ys.map V.str)) from ⟨hlen, ((arrOf st').map (·.2)).toList, e', vals_of_strs g1, by rw [Array.toArray_toList]; exact he'⟩), rfl, q ys _ g2 g3 (I1.hok.fresh (Nat.le_refl _))⟩
  have lt : b < h'.objs.size := Heap.lt_size e
  rw [sortedHeap_old (Nat.ne_of_lt lt) (by rw [size_push']; exact Nat.lt_succ_of_lt lt)]
  exact Heap.get?_push_of_some _ e
end
end Nm

set_option Elab.async false
set_option linter.all false
set_option maxRecDepth 100000
set_option maxHeartbeats 4000000
namespace Nm
open PySem PySem.Spec PyProof.Rows L2
/-! ### an instance called, what it raises wished for at the caller's slots -/
def tCallOS (C : Addr) (sp : Sp) (E : L2.St → XK) (tf : TE) (t : TA) : TE := fun σ H Q => tf σ H fun y H1 => ∃ a, y = V.ref a ∧ t σ H1 fun vs H2 => (∃ dx fs, H2 a = some (.ins C dx fs)) ∧ sp (V.ref a :: vs) H2 Q (E σ)
section
variable {X : Cx} {CX : CXT} {k : Nat} {g C : Addr} {sp : Sp} {E : L2.St → XK} {e fe : Expr} {es : List Expr} {tf : TE} {t : TA} {pos : Pos}
theorem pe_callOS (hf : PE X fe tf) (c : StX.CallO X.K C g) (F : FnR X.prog X.w X.K X.mg X.base CX k g sp) (hr : Room k X.A) (hx : ∀ σ, PassesAt CX X σ (E σ)) (ha : PA X (e :: es) t)
    (ht : eval (.Call fe (e :: es) [] pos) X.env = (do callWith pos (← eval fe X.env) [] (backTo pos (starEach (e :: es) X.env)) (backToKw pos (keywordEach [] X.env))) := by rfl)
    (he : starEach (e :: es) X.env = (false, eval e X.env) :: starEach es X.env := by rfl) (hpl : (backTo pos (starEach es X.env)).any (·.1) = false := by rfl) : PE X (.Call fe (e :: es) [] pos) (tCallOS C sp E tf t) := by
  constructor
  intro pins s σ H Q I h
  refine Call_ (thn (hf.run pins s σ H _ I h) fun u s1 hh => ?_) ht
  obtain ⟨y, H1, I1, ry, a, rfl, q⟩ := hh
  cases ry
  refine StX.callO_with (thn (ha.run pos pins s1 σ H1 _ I1 q) fun us s2 hh => ?_) he hpl
  obtain ⟨vs, H2, I2, r, ⟨dx, fs, hi⟩, q2⟩ := hh
  obtain ⟨ox, od, J, hd⟩ := StX.insC_at I2 (.inr ⟨dx, fs, hi⟩)
  refine ⟨⟨C, ox, od, J, hd⟩, wpAny_call (PySem.W.kco_code I2.kIn J hd c.at_ c.fn c.fi ?_)⟩
  refine codeAny_mono (F X.A X.stack s2 H2 (.ref a :: us) (.ref a :: vs) Q (E σ) hr I2.env0 (.cons rfl r) q2) fun z s' hq => ?_
  rcases z with er | (_ | _ | _ | u)
  · exact hx σ pins H2 s2 er s' I2 hq
  all_goals first | exact I2.after hq | exact (show False from hq).elim
end
/-! ### isinstance of a caught error -/
structure ExK (K : Fg) (D : Addr) : Prop where
  cl : (PySem.W.clsIn K D).isSome = true
  ga : PySem.W.findIn K (.ref D) "__getattribute__" = some (some (.builtin "BaseException.__getattribute__"))
  gt : PySem.W.findIn K (.ref D) "__getattr__" = some none
  sb : PySem.W.subIn K (.ref D) (.type "BaseException") = some true
  ca : PySem.W.findIn K (.ref D) "__class__" = some (some (.builtin "object.__class__"))
  cg : PySem.W.specialIn K (.builtin "object.__class__") "__get__" = some (some (.builtin "getset_descriptor.__get__"))
  ct : PySem.W.takesIn K (.builtin "object.__class__") = some true
  mo : PySem.W.mroIn K D (.type "object") = some true
/-- isinstance(e, c), isinstance(e, (c, ..)): e stands at a, of the class at D -/
def rIsX (K : Fg) (D a : Addr) : List V → Hp → VK → Prop := fun xs H Q => ∃ (c : V) (b : Bool), xs = [.ref a, c] ∧
  ((∃ u, ClsV c u ∧ PySem.W.kitOne K (.ref D) u = some b) ∨ ∃ (tp : Addr) (cs : List V) (us : List Value), c = .ref tp ∧ H tp = some (.tup cs) ∧ Paired ClsV cs us ∧ PySem.W.kitAny K (.ref D) us = some b) ∧ Q (.bl b) H
theorem call_isX {X : Cx} {a D : Addr} {cls : Value} {d : Option Addr} {oe : Obj} {pn : List (Addr × Obj)} (T : ExK X.K D) (hz : Zc cls d oe) (hf : ∃ vs, oe.data = .fields vs) :
    CallR (X.suite a ((a, oe) :: pn)) (.builtin "isinstance") (fun xs H Q => cls = .ref D ∧ (∃ dd fs, d = some dd ∧ H dd = some (.xd fs)) ∧ rIsX X.K D a xs H Q) := by
  rintro pins s σ H xs us Q I r ⟨rfl, ⟨dd, fs, rfl, hd⟩, c, b, rfl, h, q⟩
  obtain ⟨u1, u2, rfl, r1, r2⟩ := vals2 r
  cases (show u1 = Value.ref a from r1)
  obtain ⟨hget, _⟩ := I.pin (a, oe) (List.mem_append.mpr (.inl List.mem_cons_self))
  obtain ⟨mA, hns, _⟩ := (show ObjOk X.prog X.w H s.heap dd (.xd fs) from I.hok dd _ hd)
  obtain ⟨od, ho, _⟩ := lookIn_ns hns
  obtain ⟨vs, hv⟩ := hf
  have J : PySem.W.InstAt s.heap a oe D (some od) := ⟨hget, hz.1, by unfold PySem.W.notCls; rw [hv] <;> rfl, by rw [hz.2]; exact ho⟩
  have Z := PySem.W.kitx_exc (x := a) (od := some od) (ox := oe) T.cl T.ga T.gt T.sb T.ca T.cg T.ct T.mo
  rcases h with ⟨u, k, e⟩ | ⟨tp, cs, ws, rfl, hT, k, e⟩
  · have e2 := k.eq r2
    subst e2
    exact PySem.W.kia_one Z I.kIn J e (fun z => nomatch z) fun tk => ⟨.bl b, H, I.tok tk, rfl, q⟩
  · cases (show u2 = Value.ref tp from r2)
    obtain ⟨_, its, rv, o, h1, h2, n, h3⟩ := (show ObjOk X.prog X.w H s.heap tp (.tup cs) from I.hok tp _ hT)
    have e3 := ClsV.all k rv
    subst e3
    obtain ⟨oc, od', dt, sl⟩ := o
    simp only at h2 h3
    subst h2 h3
    exact PySem.W.kia_tup Z I.kIn J h1 e (fun z => nomatch z) fun tk => ⟨.bl b, H, I.tok tk, rfl, q⟩
end Nm

set_option Elab.async false
set_option linter.all false
set_option maxRecDepth 100000
set_option maxHeartbeats 4000000
namespace Nm
open PySem PySem.Spec PyProof.Rows L2
/-! ### dicts, joins, comprehensions as evaluations -/
section
open Evl
variable {K : Fg} {σ : L2.St} {H H' : Hp} {ta tb tc td te ty tx : TE} {t u : TT} {x y z v : V} {a : Addr} {kvs : List (Key × V)} {k : Key}
/-- a new dict -/
def EvK (te : TE) (σ : L2.St) (H : Hp) (kvs : List (Key × V)) : Prop := ∀ H1, Ex H H1 → ∀ Q : VK, (∀ p H2, H1 p = none → Ex H1 H2 → H2 p = some (.dK kvs) → Q (.ref p) H2) → te σ H1 Q
theorem ev_dget (h1 : Ev td σ H (.ref a)) (h2 : Ev ty σ H (kV k)) (hd : H a = some (.dK kvs)) (hv : valV kvs k = some v) : Ev (tDGet td ty) σ H v := fun H1 e Q q =>
  h1 H1 e _ fun H2 e2 => h2 H2 (e.trans e2) _ fun H3 e3 => ⟨a, v, rfl, by rw [← hv]; exact DGet.k (((e.trans e2).trans e3) _ _ hd), q H3 (e2.trans e3)⟩
theorem ev_dget2 (h1 : Ev td σ H (.ref a)) (h2 : Ev ty σ H (kV k)) (h3 : Ev tx σ H z) (hd : H a = some (.dK kvs)) : Ev (tDGet2 td ty tx) σ H ((valV kvs k).getD z) := fun H1 e Q q =>
  h1 H1 e _ fun H2 e2 => ⟨a, rfl, .inl ⟨kvs, .inl ((e.trans e2) _ _ hd)⟩, h2 H2 (e.trans e2) _ fun H3 e3 => h3 H3 ((e.trans e2).trans e3) _ fun H4 e4 =>
    ⟨_, DGet.k ((((e.trans e2).trans e3).trans e4) _ _ hd), q H4 ((e2.trans e3).trans e4)⟩⟩
theorem ev_din (h1 : Ev td σ H (.ref a)) (h2 : Ev ty σ H (kV k)) (hd : H a = some (.dK kvs)) : Ev (tDIn ty td) σ H (.bl (valV kvs k).isSome) := fun H1 e Q q =>
  h2 H1 e _ fun H2 e2 => h1 H2 (e.trans e2) _ fun H3 e3 => ⟨a, _, rfl, DGet.k (((e.trans e2).trans e3) _ _ hd), q H3 (e2.trans e3)⟩
theorem ev_dnin (h1 : Ev td σ H (.ref a)) (h2 : Ev ty σ H (kV k)) (hd : H a = some (.dK kvs)) : Ev (tDNotIn ty td) σ H (.bl (!(valV kvs k).isSome)) := fun H1 e Q q =>
  h2 H1 e _ fun H2 e2 => h1 H2 (e.trans e2) _ fun H3 e3 => ⟨a, _, rfl, DGet.k (((e.trans e2).trans e3) _ _ hd), q H3 (e2.trans e3)⟩
/-- ''.join of a new list of texts -/
def rJoin (K : Fg) : V → List V → Hp → VK → Prop := fun x xs H Q => ∃ a p, ∃ ys : List Str, x = .str a ∧ xs = [.ref p] ∧ (SqL K H p (ys.map V.str) ∨ SqT K H p (ys.map V.str)) ∧
  (ys.map (·.length)).sum + ys.length * a.length ≤ 16777216 ∧ Q (.str (Txt.join a ys)) H
theorem ev_join0 {l : List Nat} (h1 : Ev ta σ H (.str ⟨#[]⟩)) (h2 : EvL tb σ H (sgs l)) (hl : l.length ≤ 1000000) : Ev (tM1 (rJoin K) ta tb) σ H (.str (stL l)) := fun H1 e Q q =>
  h1 H1 e _ fun H2 e2 => ⟨⟨_, rfl⟩, h2 H2 (e.trans e2) _ fun p H3 _ e3 hp => ⟨⟨#[]⟩, p, l.map sgS, rfl, rfl, .inl (SqL.of (by rw [hp, sgs_strs])), by
    rw [sum_sgs, show (⟨#[]⟩ : Str).length = 0 from rfl]
    omega, by rw [join_sgs]; exact q H3 (e2.trans e3)⟩⟩
theorem ev_joinP {l : List Nat} {p : Addr} (h1 : Ev ta σ H (.str ⟨#[]⟩)) (h2 : Ev tb σ H (.ref p)) (hp : H p = some (.lst (sgs l))) (hl : l.length ≤ 1000000) : Ev (tM1 (rJoin K) ta tb) σ H (.str (stL l)) := fun H1 e Q q =>
  h1 H1 e _ fun H2 e2 => ⟨⟨_, rfl⟩, h2 H2 (e.trans e2) _ fun H3 e3 => ⟨⟨#[]⟩, p, l.map sgS, rfl, rfl, .inl (SqL.of (by rw [((e.trans e2).trans e3) _ _ hp, sgs_strs])), by
    rw [sum_sgs, show (⟨#[]⟩ : Str).length = 0 from rfl]
    omega, by rw [join_sgs]; exact q H3 (e2.trans e3)⟩⟩
theorem emp_str : (Str.ofString "") = (⟨#[]⟩ : Str) := by decide +kernel
/-- ''.join of a new list of longer texts -/
theorem ev_joinS {ls : List (List Nat)} (h1 : Ev ta σ H (.str ⟨#[]⟩)) (h2 : EvL tb σ H (ls.map fun l => V.str (stL l))) (hl : ls.flatten.length ≤ 1000000) : Ev (tM1 (rJoin K) ta tb) σ H (.str (stL ls.flatten)) := fun H1 e Q q =>
  h1 H1 e _ fun H2 e2 => ⟨⟨_, rfl⟩, h2 H2 (e.trans e2) _ fun p H3 _ e3 hp => ⟨⟨#[]⟩, p, ls.map stL, rfl, rfl, .inl (SqL.of (by rw [hp, List.map_map]; rfl)), by
    have e : ((ls.map stL).map (·.length)).sum = ls.flatten.length := by
      rw [List.length_flatten, List.map_map]
      congr 1
    rw [e, show (⟨#[]⟩ : Str).length = 0 from rfl]
    omega, by
    have e : Txt.join ⟨#[]⟩ (ls.map stL) = stL ls.flatten := by
      refine Str.ext' (Array.toList_inj.mp ?_)
      rw [join_codes, stL_codes, List.map_map]
      congr 1
      exact (List.map_congr_left fun l _ => stL_codes l).trans (List.map_id _)
    rw [e]
    exact q H3 (e2.trans e3)⟩⟩
/-- two clauses: over a tuple, then over a text with a test; the element is the sign -/
theorem el_lc2 {xs : List V} {z : Str} {i j : Nat} {vs vs1 : List Nat} {tl : TE} (f : V → Nat → Bool) (h : Ev tl σ H (.ref a)) (hx : SqT K H a xs) (hz : z.length ≤ 40000) (hn : xs.length ≤ 100)
    (hw : ∀ x, wipe ((wipe σ vs).set i (some x)) vs = wipe σ vs) (hw1 : ∀ x y, wipe ((wipe ((wipe σ vs).set i (some x)) vs1).set j (some y)) vs1 = wipe ((wipe σ vs).set i (some x)) vs1)
    (h1 : ∀ x H1, Ex H H1 → x ∈ xs → Ev te ((wipe σ vs).set i (some x)) H1 (.str z))
    (ht : ∀ x (c : Nat) H1, Ex H H1 → x ∈ xs → c ∈ z.cps.toList → EvT t ((wipe ((wipe σ vs).set i (some x)) vs1).set j (some (.str (sgS c)))) H1 (f x c))
    (he : ∀ x (c : Nat) H1, Ex H H1 → x ∈ xs → c ∈ z.cps.toList → Ev ta ((wipe ((wipe σ vs).set i (some x)) vs1).set j (some (.str (sgS c)))) H1 (.str (sgS c))) :
    EvL (tLc2 (iTup K tl) (gName i) tYes (iStr te) (gName j) t ta vs vs1) σ H (sgs (xs.map fun x => z.cps.toList.filter (f x)).flatten) := fun H0 e Q q => h H0 e _ fun H1 e1 => ⟨a, rfl, ⟨xs, ex_t (e.trans e1) hx⟩, fun D hD => by
  have hzl : z.cps.toList.length = z.length := by simp [Str.length]
  let R : Nat → List Nat := fun n => ((xs.take n).map fun x => z.cps.toList.filter (f x)).flatten
  have hR : ∀ n, (R n).length ≤ n * z.length := fun n => by
    refine Nat.le_trans (flat_len (m := z.length) fun l hl => ?_) ?_
    · obtain ⟨x, _, rfl⟩ := List.mem_map.mp hl
      rw [← hzl]
      exact List.length_filter_le _ _
    · rw [List.length_map, List.length_take, Nat.mul_comm]
      exact Nat.mul_le_mul_right _ (by omega)
  have hbig : ∀ n m, n ≤ xs.length → m ≤ z.length → n * z.length + m < sizeLine := fun n m hn' hm => by
    have h3 : n * z.length ≤ 100 * 40000 := Nat.mul_le_mul (by omega) hz
    rw [sizeLine_eq]
    omega
  refine ⟨fun n m G => m = xs.length - n ∧ n ≤ xs.length ∧ Ex H1 G ∧ G D = some (.lst (sgs (R n))), ⟨_, rfl, Nat.zero_le _, Ex.new hD, upd_same⟩, ?_⟩
  rintro n m G ⟨rfl, hle, eG, hG⟩
  have xG := ex_t ((e.trans e1).trans eG) hx
  by_cases hlt : n < xs.length
  · refine .inr ⟨walk_tup.goes n G hlt xG, fun G' => Ex H1 G' ∧ G' D = some (.lst (sgs (R (n + 1)))), fun G' p => ⟨_, by omega, rfl, hlt, p.1, p.2⟩, ?_⟩
    rintro x G' yl
    obtain ⟨rfl, hxn⟩ := walk_tup.yields n G x G' hlt xG yl
    have hm : x ∈ xs := List.mem_of_getElem? hxn
    have hR1 : R (n + 1) = R n ++ z.cps.toList.filter (f x) := by
      show ((xs.take (n + 1)).map _).flatten = _
      rw [List.take_add_one, hxn, List.map_append, List.flatten_append]
      simp [R]
    refine ⟨hw x, ?_⟩
    unfold tYes
    dsimp only
    rw [if_pos rfl]
    refine h1 x _ (e.trans e1) hm G' eG _ fun G2 e2 => ⟨z, rfl, ?_⟩
    refine ⟨fun p m G => m = z.cps.size - p ∧ p ≤ z.cps.size ∧ Ex H1 G ∧ G D = some (.lst (sgs (R n ++ (z.cps.toList.take p).filter (f x)))), ⟨_, rfl, Nat.zero_le _, eG.trans e2, by rw [e2 D _ hG]; simp⟩, ?_⟩
    rintro p m G3 ⟨rfl, hle3, e3, hG3⟩
    by_cases hp : p < z.cps.size
    · refine .inr ⟨walk_str.goes p G3 hp trivial, fun G4 => Ex H1 G4 ∧ G4 D = some (.lst (sgs (R n ++ (z.cps.toList.take (p + 1)).filter (f x)))), fun G4 q4 => ⟨_, by omega, rfl, hp, q4.1, q4.2⟩, ?_⟩
      rintro y G4 yl4
      obtain ⟨rfl, c, hc, rfl⟩ := walk_str.yields p G3 y G4 hp trivial yl4
      have hc' : z.cps.toList[p]? = some c := by rw [Array.getElem?_toList]; exact hc
      have hcm : c ∈ z.cps.toList := List.mem_of_getElem? hc'
      have hT : (z.cps.toList.take (p + 1)).filter (f x) = (z.cps.toList.take p).filter (f x) ++ (if f x c = true then [c] else []) := by
        rw [List.take_add_one, hc', List.filter_append]
        congr 1
        by_cases hf : f x c = true <;> simp [hf]
      refine ⟨hw1 x _, ht x c _ (e.trans e1) hm hcm G4 e3 _ fun G5 e5 => ?_⟩
      cases hf : f x c with
      | true =>
        refine iteT (he x c _ (e.trans e1) hm hcm G5 (e3.trans e5) _ fun G6 e6 => ⟨_, e6 D _ (e5 D _ hG3), ?_, Ex.mut ((e3.trans e5).trans e6) hD, ?_⟩)
        · rw [sgs_len, List.length_append]
          have h5 := hR n
          have h6 := List.length_filter_le (f x) (z.cps.toList.take p)
          rw [List.length_take, hzl] at h6
          have h7 := hbig n z.length (by omega) (Nat.le_refl _)
          omega
        · rw [upd_same, hT, if_pos hf]
          simp [sgs]
      | false =>
        refine iteF ⟨e3.trans e5, ?_⟩
        rw [e5 D _ hG3, hT, if_neg (by rw [hf]; exact Bool.false_ne_true), List.append_nil]
    · have hpe : p = z.cps.size := by omega
      subst hpe
      refine .inl ⟨walk_str.stops G3 trivial, e3, ?_⟩
      have e9 : z.cps.toList.take z.cps.size = z.cps.toList := List.take_of_length_le (by simp)
      rw [e9] at hG3
      rw [hG3, hR1]
  · have hne : n = xs.length := by omega
    subst hne
    refine .inl ⟨walk_tup.stops G xG, q D G (fresh_back e1 hD) (e1.trans eG) ?_⟩
    have e9 : R xs.length = (xs.map fun x => z.cps.toList.filter (f x)).flatten := by
      show ((xs.take xs.length).map _).flatten = _
      rw [List.take_length]
    rw [← e9]
    exact hG⟩
end
end Nm

set_option Elab.async false
set_option linter.all false
set_option maxRecDepth 100000
set_option maxHeartbeats 4000000
namespace Nm
open PySem PySem.Spec PyProof.Rows L2
/-! ### signs, words -/
abbrev SIGNS : Str := "abcdefghijklmnopqrstuvwxyzABCDEFGHIJKLMNOPQRSTUVWXYZ0123456789'-.:^_~"
def sgn (c : Nat) : Bool := decide (c ∈ SIGNS.cps.toList)
def upTo (z : Str) (m : Int) : Bool := decide ((1 : Int) ≤ (z.length : Int)) && (decide ((z.length : Int) ≤ m) && z.cps.toList.all sgn)
def isSg (z : Str) : Bool := decide ((z.length : Int) = 1) && z.cps.toList.all sgn
def spSg : Sp := fun vs H Q _ => ∃ x, vs = [x] ∧ ((∃ z : Str, x = .str z ∧ z.length ≤ 100000 ∧ Q (.bl (isSg z)) H) ∨ (Oth H x ∧ Q (.bl false) H))
def spUp : Sp := fun vs H Q _ => ∃ x m, vs = [x, .int m] ∧ ((∃ z : Str, x = .str z ∧ z.length ≤ 100000 ∧ ∀ H', Same H H' → Q (.bl (upTo z m)) H') ∨ (Oth H x ∧ Q (.bl false) H))
def spUpTo (m : Int) : Sp := fun vs H Q _ => ∃ x, vs = [x] ∧ ((∃ z : Str, x = .str z ∧ z.length ≤ 100000 ∧ ∀ H', Same H H' → Q (.bl (upTo z m)) H') ∨ (Oth H x ∧ Q (.bl false) H))
theorem len_str (z : Str) : z.length = z.cps.toList.length := by simp [Str.length]
theorem one_sign {z : Str} (h : z.length = 1) : ∃ c, z = ⟨#[c]⟩ := by
  have h2 : z.cps.toList.length = 1 := by rw [← len_str]; exact h
  obtain ⟨c, e⟩ := List.length_eq_one_iff.mp h2
  exact ⟨c, Str.ext' (Array.toList_inj.mp (by simpa using e))⟩
theorem map_bl {l : List Nat} {f : Nat → Bool} : (l.map fun c => V.bl (f c)) = (l.map f).map V.bl := by rw [List.map_map]; rfl
theorem all_id {l : List Nat} {f : Nat → Bool} : (l.map f).all id = l.all f := by rw [List.all_map]; rfl
/-- the codes of a word of at most n signs -/
structure Wd (l : List Nat) (n : Nat) : Prop where
  ge : 1 ≤ l.length
  le : l.length ≤ n
  sg : ∀ c ∈ l, sgn c = true
theorem Wd.up {l : List Nat} {n m : Nat} (h : Wd l n) (le : n ≤ m) : Wd l m := ⟨h.ge, Nat.le_trans h.le le, h.sg⟩
theorem upTo_iff {l : List Nat} {n : Nat} : upTo (stL l) (n : Int) = true ↔ Wd l n := by
  unfold upTo
  rw [stL_len, stL_codes]
  simp only [Bool.and_eq_true, decide_eq_true_eq, List.all_eq_true]
  constructor
  · rintro ⟨h1, h2, h3⟩
    exact ⟨by omega, by omega, h3⟩
  · rintro ⟨h1, h2, h3⟩
    exact ⟨by omega, by omega, h3⟩
theorem isSg_sg {c : Nat} : isSg (sgS c) = sgn c := by
  unfold isSg
  rw [show (sgS c).length = 1 from rfl, show (sgS c).cps.toList = [c] from rfl]
  simp
/-! ### integers -/
def numB : V → Bool
  | .int _ => true
  | _ => false
/-- any data -/
inductive AnyD (H : Hp) : V → Prop where
  | o {x : V} (h : Oth H x) : AnyD H x
  | s (z : Str) : AnyD H (.str z)
theorem AnyD.same {H H' : Hp} {x : V} (h : AnyD H x) (s : Same H H') : AnyD H' x := by
  cases h with
  | o h => exact .o (h.same s)
  | s z => exact .s z
theorem AnyD.ty {K : Fg} {H : Hp} {x : V} (h : AnyD H x) : ∃ t b1 b2, TyX K H x t ∧ PySem.W.kitOne K t (.type "int") = some b1 ∧ PySem.W.kitOne K t (.type "bool") = some b2 ∧ numB x = (b1 && !b2) := by
  cases h with
  | s z => exact ⟨_, false, false, .base (.str z), kit_ty (by decide +kernel), kit_ty (by decide +kernel), rfl⟩
  | o h =>
    cases h with
    | non => exact ⟨_, false, false, .base .non, kit_ty (by decide +kernel), kit_ty (by decide +kernel), rfl⟩
    | bl b => exact ⟨_, true, true, .base (.bl b), kit_ty (by decide +kernel), kit_ty (by decide +kernel), rfl⟩
    | int i => exact ⟨_, true, false, .base (.int i), kit_ty (by decide +kernel), kit_ty (by decide +kernel), rfl⟩
    | lst e => exact ⟨_, false, false, .base (.lst e), kit_ty (by decide +kernel), kit_ty (by decide +kernel), rfl⟩
    | tup e => exact ⟨_, false, false, .base (.tup e), kit_ty (by decide +kernel), kit_ty (by decide +kernel), rfl⟩
    | dic e => exact ⟨_, false, false, .base (.dK e), kit_ty (by decide +kernel), kit_ty (by decide +kernel), rfl⟩
def spNum : Sp := fun vs H Q _ => ∃ x, vs = [x] ∧ AnyD H x ∧ Q (.bl (numB x)) H
def CLS : List V := [.int 1, .int 2, .int 3]
/-- of an integer: is it a class -/
def clB (i : Int) : Bool := inV (.int i) CLS
theorem clB_ok {i : Int} (h : i = 1 ∨ i = 2 ∨ i = 3) : clB i = true := by
  rcases h with rfl | rfl | rfl <;> decide
def spCls : Sp := fun vs H Q _ => ∃ i, vs = [.int i] ∧ Q (.bl (clB i)) H
/-! ### folds and marks as dicts -/
def kF (fs : Fds) : List (Key × V) := fs.map fun p => (Sum.inr (sgS p.1), V.str (stL p.2))
def kM (ms : Mks) : List (Key × V) := ms.map fun p => (Sum.inr (sgS p.1), V.int p.2)
theorem sgS_inj {a b : Nat} (h : sgS a = sgS b) : a = b := by
  have := stL_inj (a := [a]) (b := [b]) h
  simpa using this
theorem valV_lk {α : Type} (g : α → V) : ∀ (l : List (Nat × α)) (c : Nat), valV (l.map fun p => ((Sum.inr (sgS p.1) : Key), g p.2)) (Sum.inr (sgS c)) = (lk l c).map g
  | [], c => rfl
  | p :: r, c => by
    have ih := valV_lk g r c
    by_cases h : p.1 = c
    · subst h
      simp [valV, lk]
    · have h2 : ¬ ((Sum.inr (sgS p.1) : Key) = Sum.inr (sgS c)) := fun e => h (sgS_inj (Sum.inr.inj e))
      unfold valV lk at ih ⊢
      rw [List.map_cons, List.find?_cons, List.find?_cons, decide_eq_false h, decide_eq_false h2]
      exact ih
theorem valV_kF (fs : Fds) (c : Nat) : valV (kF fs) (Sum.inr (sgS c)) = (lk fs c).map fun w => V.str (stL w) := valV_lk (fun w => V.str (stL w)) fs c
theorem valV_kM (ms : Mks) (c : Nat) : valV (kM ms) (Sum.inr (sgS c)) = (lk ms c).map V.int := valV_lk V.int ms c
theorem kF_len (fs : Fds) : (kF fs).length = fs.length := by simp [kF]
theorem kM_len (ms : Mks) : (kM ms).length = ms.length := by simp [kM]
theorem kF_keys (fs : Fds) : (kF fs).map (·.1) = ((fs.map (·.1)).map sgS).map Sum.inr := by simp [kF]
theorem kM_keys (ms : Mks) : (kM ms).map (·.1) = ((ms.map (·.1)).map sgS).map Sum.inr := by simp [kM]
/-- folds and marks that a table may have -/
structure RuleOk (fs : Fds) (ms : Mks) : Prop where
  fn : (fs.map (·.1)).Nodup
  fk : ∀ p ∈ fs, sgn p.1 = true
  fw : ∀ p ∈ fs, Wd p.2 3 ∧ ∀ c ∈ p.2, lk fs c = none
  fl : fs.length ≤ 40
  mn : (ms.map (·.1)).Nodup
  mg : ∀ p ∈ ms, sgn p.1 = true ∧ lk fs p.1 = none
  mc : ∀ p ∈ ms, p.2 = 1 ∨ p.2 = 2 ∨ p.2 = 3
  ml : ms.length ≤ 8
theorem RuleOk.okM {fs : Fds} {ms : Mks} (h : RuleOk fs ms) : okM ms := fun c x e => h.mc _ (lk_mem e)
theorem foldC_ok {fs : Fds} {ms : Mks} (h : RuleOk fs ms) {c : Nat} (hc : sgn c = true) : Wd (foldC fs c) 3 ∧ ∀ d ∈ foldC fs c, lk fs d = none := by
  unfold foldC
  cases e : lk fs c with
  | some w => exact h.fw _ (lk_mem e)
  | none =>
    refine ⟨⟨Nat.le_refl 1, (by show 1 ≤ 3; decide), fun d hd => ?_⟩, fun d hd => ?_⟩ <;> rw [List.mem_singleton.mp hd]
    · exact hc
    · exact e
theorem foldL_len {fs : Fds} {n : Nat} : ∀ {l : List Nat}, (∀ c ∈ l, (foldC fs c).length ≤ n) → (foldL fs l).length ≤ n * l.length
  | [], _ => Nat.zero_le _
  | c :: l, h => by
    have h1 := h c (List.mem_cons_self ..)
    have h2 := foldL_len fun d hd => h d (List.mem_cons_of_mem _ hd)
    rw [foldL_cons, List.length_append, List.length_cons, Nat.mul_succ]
    omega
theorem foldL_ge {fs : Fds} {ms : Mks} (h : RuleOk fs ms) : ∀ {l : List Nat}, (∀ c ∈ l, sgn c = true) → l.length ≤ (foldL fs l).length
  | [], _ => Nat.zero_le _
  | c :: l, hl => by
    have h1 := (foldC_ok h (hl c (List.mem_cons_self ..))).1.ge
    have h2 := foldL_ge h fun d hd => hl d (List.mem_cons_of_mem _ hd)
    rw [foldL_cons, List.length_append, List.length_cons]
    omega
theorem foldL_ok {fs : Fds} {ms : Mks} (h : RuleOk fs ms) {l : List Nat} {n : Nat} (w : Wd l n) : Wd (foldL fs l) (3 * n) ∧ ∀ c ∈ foldL fs l, lk fs c = none := by
  have hm : ∀ c ∈ foldL fs l, sgn c = true ∧ lk fs c = none := fun c hc => by
    obtain ⟨q, hq, hcq⟩ := List.mem_flatten.mp hc
    obtain ⟨d, hd, rfl⟩ := List.mem_map.mp hq
    have := foldC_ok h (w.sg d hd)
    exact ⟨this.1.sg c hcq, this.2 c hcq⟩
  refine ⟨⟨Nat.le_trans w.ge (foldL_ge h w.sg), Nat.le_trans (foldL_len fun c hc => (foldC_ok h (w.sg c hc)).1.le) (Nat.mul_le_mul_left 3 w.le), fun c hc => (hm c hc).1⟩, fun c hc => (hm c hc).2⟩
theorem keyL_ok {fs : Fds} {ms : Mks} (h : RuleOk fs ms) {l : List Nat} {n : Nat} (w : Wd l n) : Wd (keyL fs ms l) (3 * n) ∧ ∀ c ∈ keyL fs ms l, lk fs c = none := by
  obtain ⟨w1, h1⟩ := foldL_ok h w
  have e : (keyL fs ms l).length = (foldL fs l).length := by
    unfold keyL
    rw [len_ordL h.okM (fun c h => absurd h List.not_mem_nil)]
    simp
  have hm : ∀ c ∈ keyL fs ms l, c ∈ foldL fs l := fun c hc => (mem_ordL hc).resolve_left List.not_mem_nil
  exact ⟨⟨by rw [e]; exact w1.ge, by rw [e]; exact w1.le, fun c hc => w1.sg c (hm c hc)⟩, fun c hc => h1 c (hm c hc)⟩
theorem still_of_pw {ms : Mks} : ∀ {l : List Nat}, l.Pairwise (fun a b => fall ms a b = false) → still ms l
  | [], _ => trivial
  | [_], _ => trivial
  | a :: b :: r, h => by
    obtain ⟨h1, h2⟩ := List.pairwise_cons.mp h
    exact ⟨h1 b (List.mem_cons_self ..), still_of_pw h2⟩
theorem fall_le {ms : Mks} {a b : Nat} {x y : Int} (ha : lk ms a = some x) (hb : lk ms b = some y) (h : x ≤ y) : fall ms a b = false := by
  unfold fall
  rw [ha, hb]
  exact decide_eq_false (by omega)
theorem still_runS {ms : Mks} {run : List Nat} : still ms (runS ms run) := by
  refine still_of_pw ?_
  have hk : ∀ (k : Int) c, c ∈ run.filter (fun c => decide (lk ms c = some k)) → lk ms c = some k := fun k c h => of_decide_eq_true (List.mem_filter.mp h).2
  have same : ∀ k : Int, (run.filter (fun c => decide (lk ms c = some k))).Pairwise (fun a b => fall ms a b = false) := fun k =>
    List.Pairwise.imp_of_mem (R := fun _ _ => True) (fun ha hb _ => fall_le (hk k _ ha) (hk k _ hb) (Int.le_refl k)) (List.pairwise_of_forall (fun _ _ => trivial))
  unfold runS
  refine List.pairwise_append.mpr ⟨same 1, List.pairwise_append.mpr ⟨same 2, same 3, fun a ha b hb => fall_le (hk 2 _ ha) (hk 3 _ hb) (by decide)⟩, fun a ha b hb => ?_⟩
  rcases List.mem_append.mp hb with h | h
  · exact fall_le (hk 1 _ ha) (hk 2 _ h) (by decide)
  · exact fall_le (hk 1 _ ha) (hk 3 _ h) (by decide)
theorem fall_sign {ms : Mks} {a c : Nat} (h : lk ms c = none) : fall ms a c = false ∧ fall ms c a = false := by
  unfold fall
  rw [h]
  cases lk ms a <;> exact ⟨rfl, rfl⟩
theorem still_app {ms : Mks} {c : Nat} {b : List Nat} (hc : lk ms c = none) (hb : still ms b) : ∀ {a : List Nat}, still ms a → still ms (a ++ c :: b)
  | [], _ => by
    cases b with
    | nil => trivial
    | cons d r => exact ⟨(fall_sign hc).2, hb⟩
  | [x], _ => ⟨(fall_sign hc).1, by
    cases b with
    | nil => trivial
    | cons d r => exact ⟨(fall_sign hc).2, hb⟩⟩
  | x :: y :: r, h => ⟨h.1, still_app hc hb (a := y :: r) h.2⟩
theorem still_ordL {ms : Mks} : ∀ {l run : List Nat}, still ms (ordL ms l run)
  | [], _ => still_runS
  | c :: l, run => by
    cases hm : isM ms c with
    | true =>
      rw [ordL_mark hm]
      exact still_ordL
    | false =>
      rw [ordL_sign hm]
      refine still_app ?_ still_ordL still_runS
      unfold isM at hm
      cases e : lk ms c with
      | none => rfl
      | some x => rw [e] at hm; cases hm
/-- the key of a key -/
theorem keyL_keyL {fs : Fds} {ms : Mks} (h : RuleOk fs ms) {l : List Nat} {n : Nat} (w : Wd l n) : keyL fs ms (keyL fs ms l) = keyL fs ms l := by
  obtain ⟨_, h1⟩ := keyL_ok h w
  show ordL ms (foldL fs (keyL fs ms l)) [] = _
  rw [foldL_id h1]
  exact ordL_id h.okM still_ordL
/-! ### a table in memory -/
def tabF (p q : Addr) : List (Str × V) := putF "_marks" (.ref q) (putF "_folds" (.ref p) [])
theorem fm_ : ¬ (("_folds" : Str) = "_marks") := by decide +kernel
theorem tabF_f (p q : Addr) : (tabF p q).lookup ("_folds" : Str) = some (.ref p) := by
  unfold tabF
  rw [lookup_putF, if_neg fm_, lookup_putF, if_pos rfl]
theorem tabF_m (p q : Addr) : (tabF p q).lookup ("_marks" : Str) = some (.ref q) := by
  unfold tabF
  rw [lookup_putF, if_pos rfl]
def TabAt (C : Addr) (H : Hp) (a : Addr) (fs : Fds) (ms : Mks) : Prop := ∃ dx p q, H a = some (.ins C dx (tabF p q)) ∧ H p = some (.dK (kF fs)) ∧ H q = some (.dK (kM ms))
theorem TabAt.same {C : Addr} {H H' : Hp} {a : Addr} {fs : Fds} {ms : Mks} (h : TabAt C H a fs ms) (s : Same H H') : TabAt C H' a fs ms := by
  obtain ⟨dx, p, q, h1, h2, h3⟩ := h
  exact ⟨dx, p, q, s _ _ h1, s _ _ h2, s _ _ h3⟩
/-! ### the promises of the program's defs -/
section
open Evl
def spFolded : Sp := fun vs H Q _ => ∃ d z fs, vs = [.ref d, .str z] ∧ H d = some (.dK (kF fs)) ∧ z.length ≤ 1000 ∧ (∀ p ∈ fs, p.2.length ≤ 3) ∧ RetV (.str (stL (foldL fs z.cps.toList))) H Q
def spRun : Sp := fun vs H Q _ => ∃ d z ms, vs = [.ref d, .str z] ∧ H d = some (.dK (kM ms)) ∧ z.length ≤ 5000 ∧ (∀ c ∈ z.cps.toList, isM ms c = true) ∧ RetV (.str (stL (runS ms z.cps.toList))) H Q
def spMarks : Sp := fun vs H Q _ => ∃ d z ms, vs = [.ref d, .str z] ∧ H d = some (.dK (kM ms)) ∧ z.length ≤ 5000 ∧ okM ms ∧ RetV (.str (stL (ordL ms z.cps.toList []))) H Q
def spKeyOf (C : Addr) : Sp := fun vs H Q _ => ∃ a z fs ms, vs = [.ref a, .str z] ∧ TabAt C H a fs ms ∧ RuleOk fs ms ∧ z.length ≤ 1000 ∧ RetV (.str (stL (keyL fs ms z.cps.toList))) H Q
/-- a property of a table: a copy of its dict -/
def spProp (C : Addr) (f : Str) : Sp := fun vs H Q _ => ∃ a dx fs p kvs, vs = [.ref a] ∧ H a = some (.ins C dx fs) ∧ fs.lookup f = some (.ref p) ∧ H p = some (.dK kvs) ∧ ∀ p' , H p' = none → Q (.ref p') (upd H p' (.dK kvs))
/-- NoWord(x), raised -/
def NoW (CW : Addr) (x : V) (H : Hp) (E : XK) : Prop := ∀ d H', H d = none → Same H H' → H' d = some (.xd [(("word" : Str), x)]) → E (.ref CW) (some d) H'
def spCallT (C CW : Addr) : Sp := fun vs H Q E => ∃ a x fs ms, vs = [.ref a, x] ∧ TabAt C H a fs ms ∧ RuleOk fs ms ∧
  ((∃ z : Str, x = .str z ∧ z.length ≤ 1000 ∧ (upTo z 40 = true → RetV (.str (stL (keyL fs ms z.cps.toList))) H Q) ∧ (upTo z 40 = false → NoW CW x H E)) ∨ (Oth H x ∧ NoW CW x H E))
def spChkF : Sp := fun vs H Q _ => ∃ d fs ms, vs = [.ref d] ∧ H d = some (.dK (kF fs)) ∧ RuleOk fs ms ∧ ∀ H', Same H H' → Q .non H'
def spChkM : Sp := fun vs H Q _ => ∃ dm df fs ms, vs = [.ref dm, .ref df] ∧ H df = some (.dK (kF fs)) ∧ H dm = some (.dK (kM ms)) ∧ RuleOk fs ms ∧ ∀ H', Same H H' → Q .non H'
def spChkS : Sp := fun vs H Q _ => ∃ dm df fs ms, vs = [.ref df, .ref dm] ∧ H df = some (.dK (kF fs)) ∧ H dm = some (.dK (kM ms)) ∧ RuleOk fs ms ∧ Q .non H
/-- __init__ of a table whose folds and marks are in order: copies of both -/
def spInitT (C : Addr) : Sp := fun vs H Q _ => ∃ x dx df dm fs ms, vs = [.ref x, .ref df, .ref dm] ∧ H x = some (.ins C dx []) ∧ H df = some (.dK (kF fs)) ∧ H dm = some (.dK (kM ms)) ∧ RuleOk fs ms ∧
  ∀ H' p q, H p = none → H q = none → p ≠ q → H' x = some (.ins C dx (tabF p q)) → H' p = some (.dK (kF fs)) → H' q = some (.dK (kM ms)) → (∀ b o, b ≠ x → H b = some o → H' b = some o) → Q .non H'
end
end Nm

set_option Elab.async false
set_option linter.all false
set_option maxRecDepth 100000
set_option maxHeartbeats 4000000
namespace Nm
open PySem PySem.Spec PyProof.Rows L2 Evl
def top (i : Nat) : Stmt := PySem.Challenge.pw_namesone_k05_keys.main.body.getD i (.Pass ⟨0, 0, 0, 0⟩)
structure Txt (K : Fg) (mg : Str → Option Value) : Prop where
  b_isinstance : mg "isinstance" = none
  b_str : mg "str" = none
  b_int : mg "int" = none
  b_bool : mg "bool" = none
  b_len : mg "len" = none
  b_all : mg "all" = none
  b_any : mg "any" = none
  b_abs : mg "abs" = none
  b_repr : mg "repr" = none
  b_range : mg "range" = none
  b_max : mg "max" = none
  b_min : mg "min" = none
  b_list : mg "list" = none
  b_dict : mg "dict" = none
  b_sorted : mg "sorted" = none
  b_ValueError : mg "ValueError" = none
  c_SIGNS : ∃ u, mg "SIGNS" = some u ∧ RelV (.str SIGNS) u
  c_LONGEST_WORD : ∃ u, mg "LONGEST_WORD" = some u ∧ RelV (.int 40) u
  c_LONGEST_FOLD : ∃ u, mg "LONGEST_FOLD" = some u ∧ RelV (.int 3) u
  c_MOST_FOLDS : ∃ u, mg "MOST_FOLDS" = some u ∧ RelV (.int 40) u
  c_MOST_MARKS : ∃ u, mg "MOST_MARKS" = some u ∧ RelV (.int 8) u
/-! ### drawing: _law_bag, _law_take -/
abbrev s__law_bag : Stmt := top 31
abbrev sc__law_bag_N : List Str := ["_law_script", "_law_at", "_law_cell", "_law_digits"]
theorem sc__law_bag : FnScope sc__law_bag_N ["_law_script", "_law_at"] (defScope s__law_bag) := ⟨rfl, rfl, rfl, by decide +kernel, rfl, by decide +kernel, by decide +kernel⟩
abbrev s__law_take : Stmt := top 32
abbrev sc__law_take_N : List Str := ["_law_bag_here", "_law_many", "_law_digit", "_law_mixed"]
theorem sc__law_take : FnScope sc__law_take_N ["_law_bag_here", "_law_many"] (defScope s__law_take) := ⟨rfl, rfl, rfl, by decide +kernel, rfl, by decide +kernel, by decide +kernel⟩
section
variable {P : Program} {w : World} {K : Fg} {mg : Str → Option Value} {base : Heap}
theorem ok__law_bag {f : Addr} {fd : FuncData} {k : Nat} (F : Fun K "_law_bag" "_law_bag" s__law_bag f fd) (T : Txt K mg) : FnOk P w K mg base CX0 (k + 1) f fd ["_law_script", "_law_at"] (spBag K) := by
  refine F.ok sc__law_bag (fun vs H Q E h => ?_) (fun cdv A outer s H vs Q E hr h => ?_)
  · obtain ⟨a, ns, i, rfl, _⟩ := h
    rfl
  · obtain ⟨a, ns, i, rfl, hS, hi, q⟩ := h
    refine ⟨_, (pss_cons (ps_set (i := 2) sc__law_bag.nd rfl (Or.inl rfl) (pe_ifExp (pt_cmpR op_lt (pv 1) (pe_callB call_len_seq (by rfl) T.b_len PySem.boot_len (pa_cons (pv 0) pa_nil)) (nomark _)) (pe_ix ix_list (pv 0) (pv 1) (fun _ _ => rfl)) pe_int))
      (pss_cons (ps_set (i := 3) sc__law_bag.nd rfl (Or.inl rfl) (pe_ifExp (pt_cmpR op_ge (pe_callB call_abs (by rfl) T.b_abs (by decide +kernel) (pa_cons (pv 2) pa_nil)) (pe_op op_pow pe_int pe_int) (nomark _)) (pe_callB call_abs (by rfl) T.b_abs (by decide +kernel) (pa_cons (pv 2) pa_nil)) pe_int))
      (pss_one (ps_ret (pe_lstS (pa_cons (pv 3) (pa_cons (pe_op op_mod (pe_op op_mul (pe_op op_add (pe_op op_add (pe_op op_mod (pv 2) pe_int) (pe_op op_mul pe_int (pv 1))) pe_int) pe_int) pe_int) (pa_cons pe_int pa_nil)))))))), ?_⟩
    have fin : ∀ (z d : Int), 0 ≤ d → tLstS (tCons (tC (.int d)) (tCons (tC (.int ((z % 2305843009213693951 + 6211 * (i : Int) + 17) * 92821993 % 2305843009213693951))) (tCons (tC (.int 0)) tNil))) [] H Q := fun z d hd =>
      ⟨(show 3 ≤ sizeLine by decide), fun p np _ => q p _ np ⟨d, _, 0, upd_same, hd, Int.emod_nonneg _ (by decide), Int.emod_lt_of_pos _ (by decide), by decide, by decide⟩ fun y o e => (upd_ne (ne_of_none e np)).trans e⟩
    refine ⟨_, rfl, _, rfl, a, _, rfl, .inl hS, _, _, rfl, rfl, _, rfl, ite2 (fun h1 => ?_) (fun h1 => ?_)⟩
    · have h2 : i < ns.length := by
        have q := of_decide_eq_true h1
        rw [List.length_map] at q
        omega
      refine ⟨_, rfl, _, rfl, a, _, _, _, rfl, rfl, hS, atI_nat (j := i) (v := .int ns[i]) (by rw [List.getElem?_map, List.getElem?_eq_getElem h2]; rfl), ?_⟩
      refine ⟨_, rfl, _, rfl, _, _, rfl, rfl, ⟨by decide, by decide, by decide⟩, _, _, rfl, rfl, _, rfl, ite2 (fun h3 => ?_) (fun h3 => ?_)⟩
      · refine ⟨_, rfl, _, rfl, _, rfl, _, rfl, _, _, rfl, rfl, pP, _, rfl, _, _, rfl, rfl, .inl ⟨by decide, by decide⟩, _, _, rfl, rfl, _, _, rfl, rfl, _, _, rfl, rfl, .inr ⟨by decide, by decide⟩, _, _, rfl, rfl, pP, ?_⟩
        refine fin ns[i] _ ?_
        split <;> omega
      · refine ⟨_, rfl, _, rfl, _, _, rfl, rfl, pP, _, rfl, _, _, rfl, rfl, .inl ⟨by decide, by decide⟩, _, _, rfl, rfl, _, _, rfl, rfl, _, _, rfl, rfl, .inr ⟨by decide, by decide⟩, _, _, rfl, rfl, pP, ?_⟩
        exact fin ns[i] 0 (by decide)
    · refine ⟨_, rfl, _, rfl, _, _, rfl, rfl, ⟨by decide, by decide, by decide⟩, _, _, rfl, rfl, _, rfl, ite2 (fun h3 => ?_) (fun h3 => ?_)⟩
      · refine ⟨_, rfl, _, rfl, _, rfl, _, rfl, _, _, rfl, rfl, pP, _, rfl, _, _, rfl, rfl, .inl ⟨by decide, by decide⟩, _, _, rfl, rfl, _, _, rfl, rfl, _, _, rfl, rfl, .inr ⟨by decide, by decide⟩, _, _, rfl, rfl, pP, ?_⟩
        refine fin 0 _ ?_
        decide
      · refine ⟨_, rfl, _, rfl, _, _, rfl, rfl, pP, _, rfl, _, _, rfl, rfl, .inl ⟨by decide, by decide⟩, _, _, rfl, rfl, _, _, rfl, rfl, _, _, rfl, rfl, .inr ⟨by decide, by decide⟩, _, _, rfl, rfl, pP, ?_⟩
        exact fin 0 0 (by decide)
theorem ok__law_take {f : Addr} {fd : FuncData} {k : Nat} (F : Fun K "_law_take" "_law_take" s__law_take f fd) : FnOk P w K mg base CX0 (k + 1) f fd ["_law_bag_here", "_law_many"] spTake := by
  refine F.ok sc__law_take (fun vs H Q E h => ?_) (fun cdv A outer s H vs Q E hr h => ?_)
  · obtain ⟨b, m, n, rfl, _⟩ := h
    rfl
  · obtain ⟨b, m, n, rfl, ⟨d, x, c, hB, hd, hx, hx2, hc, hcn⟩, hn, hm, hm2, q⟩ := h
    have hm3 : m < 1073741824 := by omega
    refine ⟨_, (pss_cons (ps_if (pt_cmpR op_gt (pe_ix ix_list (pv 0) pe_int (fun _ _ => rfl)) pe_int (nomark _)) (pss_cons (ps_set (i := 2) sc__law_take.nd rfl (Or.inl rfl) (pe_op op_mod (pe_ix ix_list (pv 0) pe_int (fun _ _ => rfl)) (pv 1)))
      (pss_cons (ps_asg (pe_op op_fdiv (pe_ix ix_list (pv 0) pe_int (fun _ _ => rfl)) (pv 1)) (pg_sub (pv 0) pe_int set_list))
      (pss_one (ps_ret (pv 2))))) pss_nil)
      (pss_cons (ps_asg (pe_op op_add (pe_ix ix_list (pv 0) pe_int (fun _ _ => rfl)) pe_int) (pg_sub (pv 0) pe_int set_list))
      (pss_cons (ps_set (i := 3) sc__law_take.nd rfl (Or.inl rfl) (pe_op op_mod (pe_op op_pow (pe_op op_add (pe_ix ix_list (pv 0) pe_int (fun _ _ => rfl)) (pe_op op_mul pe_int (pe_ix ix_list (pv 0) pe_int (fun _ _ => rfl)))) pe_int) pe_int))
      (pss_cons (ps_set (i := 3) sc__law_take.nd rfl (Or.inl rfl) (pe_op op_mod (pe_op op_pow (pe_op op_add (pv 3) (pe_op op_mul pe_int (pe_ix ix_list (pv 0) pe_int (fun _ _ => rfl)))) pe_int) pe_int))
      (pss_one (ps_ret (pe_op op_mod (pe_op op_fdiv (pv 3) pe_int) (pv 1)))))))), ?_⟩
    refine ⟨_, rfl, b, _, 0, _, rfl, rfl, SqL.of hB, rfl, _, _, rfl, rfl, _, rfl, ite2 (fun hd0 => ?_) (fun hd0 => ?_)⟩
    · refine ⟨_, rfl, b, _, 0, _, rfl, rfl, SqL.of hB, rfl, _, rfl, _, _, rfl, rfl, hm, ?_⟩
      refine ⟨_, rfl, b, _, 0, _, rfl, rfl, SqL.of hB, rfl, _, rfl, _, _, rfl, rfl, ⟨hm, hm3⟩, _, rfl, b, _, _, 0, rfl, rfl, hB, rfl, ?_⟩
      refine ⟨_, rfl, q _ _ (Int.emod_nonneg _ (by omega)) (Int.emod_lt_of_pos _ hm) ⟨d / m, x, c, upd_same, Int.ediv_nonneg hd (by omega), hx, hx2, hc, by omega⟩ fun p hp => upd_ne hp⟩
    · have hc1 : c + 1 ≤ 1000000001 := by omega
      have s1 : (x + 5000011 * (c + 1)).natAbs < 2 ^ 64 := by unfold PM at hx2; omega
      -- bag[2] = bag[2] + 1
      refine ⟨_, rfl, b, _, 2, _, rfl, rfl, SqL.of hB, rfl, _, _, rfl, rfl, _, rfl, b, _, _, 2, rfl, rfl, hB, rfl, ?_⟩
      have hB2 : upd H b (.lst [V.int d, .int x, .int (c + 1)]) b = some (.lst [.int d, .int x, .int (c + 1)]) := upd_same
      show ∃ _, _
      refine ⟨_, rfl, b, _, 1, _, rfl, rfl, SqL.of hB2, rfl, _, rfl, b, _, 2, _, rfl, rfl, SqL.of hB2, rfl, _, _, rfl, rfl, .inl ⟨by decide, by decide⟩, _, _, rfl, rfl, _, _, rfl, rfl, ⟨by decide, by decide, s1⟩, _, _, rfl, rfl, pP2, ?_⟩
      have m0 : ∀ y z : Int, 0 < z → 0 ≤ y % z ∧ y % z < z := fun y z hz => ⟨Int.emod_nonneg _ (by omega), Int.emod_lt_of_pos _ hz⟩
      have m1 := m0 ((x + 5000011 * (c + 1)) ^ (3 : Int).toNat) 2305843009213693921 (by decide)
      have s2 : ((x + 5000011 * (c + 1)) ^ (3 : Int).toNat % 2305843009213693921 + 71993051 * (c + 1)).natAbs < 2 ^ 64 := by
        generalize (x + 5000011 * (c + 1)) ^ (3 : Int).toNat % 2305843009213693921 = y at m1 ⊢
        omega
      refine ⟨_, rfl, _, rfl, b, _, 2, _, rfl, rfl, SqL.of hB2, rfl, _, _, rfl, rfl, .inl ⟨by decide, by decide⟩, _, _, rfl, rfl, _, _, rfl, rfl, ⟨by decide, by decide, s2⟩, _, _, rfl, rfl, pP, ?_⟩
      refine ⟨_, rfl, _, _, rfl, rfl, ⟨by decide, by decide⟩, _, rfl, _, _, rfl, rfl, hm, ?_⟩
      refine q _ _ (Int.emod_nonneg _ (by omega)) (Int.emod_lt_of_pos _ hm) ⟨d, x, c + 1, hB2, hd, hx, hx2, by omega, by omega⟩ fun p hp => upd_ne hp
end
abbrev s_is_sign : Stmt := top 16
abbrev sc_is_sign_N : List Str := ["thing"]
theorem sc_is_sign : FnScope sc_is_sign_N ["thing"] (defScope s_is_sign) := ⟨rfl, rfl, rfl, by decide +kernel, rfl, by decide +kernel, by decide +kernel⟩
abbrev s_is_word : Stmt := top 17
abbrev sc_is_word_N : List Str := ["thing"]
theorem sc_is_word : FnScope sc_is_word_N ["thing"] (defScope s_is_word) := ⟨rfl, rfl, rfl, by decide +kernel, rfl, by decide +kernel, by decide +kernel⟩
abbrev s__is_word_up_to : Stmt := top 18
abbrev sc__is_word_up_to_N : List Str := ["thing", "most", "sign"]
theorem sc__is_word_up_to : FnScope sc__is_word_up_to_N ["thing", "most"] (defScope s__is_word_up_to) := ⟨rfl, rfl, rfl, by decide +kernel, rfl, by decide +kernel, by decide +kernel⟩
abbrev s__is_fold_word : Stmt := top 19
abbrev sc__is_fold_word_N : List Str := ["thing"]
theorem sc__is_fold_word : FnScope sc__is_fold_word_N ["thing"] (defScope s__is_fold_word) := ⟨rfl, rfl, rfl, by decide +kernel, rfl, by decide +kernel, by decide +kernel⟩
section
variable {P : Program} {w : World} {K : Fg} {mg : Str → Option Value} {base : Heap}
theorem ok_is_sign {f : Addr} {fd : FuncData} {k : Nat} (F : Fun K "is_sign" "is_sign" s_is_sign f fd) (T : Txt K mg) : FnOk P w K mg base CX0 (k + 1) f fd ["thing"] spSg := by
  refine F.ok sc_is_sign (fun vs H Q E h => ?_) (fun cdv A outer s H vs Q E hr h => ?_)
  · obtain ⟨x, rfl, _⟩ := h
    rfl
  · obtain ⟨x, rfl, h⟩ := h
    refine ⟨_, (pss_one (ps_ret (pe_and (pe_callB call_isi (by rfl) T.b_isinstance (by decide +kernel) (pa_cons (pv 0) (pa_cons (pe_bltn (v := .ty "str") (by rfl) T.b_str (by decide +kernel) rfl) pa_nil))) (pe_and (pe_cmpR op_eq (pe_callB call_len_str (by rfl) T.b_len PySem.boot_len (pa_cons (pv 0) pa_nil)) pe_int (nomark _)) (pe_one (pe_cmpR op_in_sign (pv 0) (pe_gx (by rfl) T.c_SIGNS) (by rfl))))))), ?_⟩
    rcases h with ⟨z, rfl, hz, q⟩ | ⟨ho, q⟩
    · obtain ⟨t, ty, kt⟩ := str_ty (K := K) (H := H) z
      have hz2 : z.length ≤ sizeLine := Nat.le_trans hz (by decide)
      refine ⟨_, rfl, _, .ty "str", t, _, _, rfl, .ty "str", ty, kt, _, rfl, iteT ?_⟩
      refine ⟨_, rfl, _, rfl, hz2, rfl, _, rfl, ite2 (fun h1 => ?_) (fun h1 => ?_)⟩
      · have h2 : (z.length : Int) = 1 := V.int.inj (of_decide_eq_true h1)
        obtain ⟨c, rfl⟩ := one_sign (z := z) (by omega)
        refine ⟨_, rfl, c, _, rfl, rfl, ?_⟩
        have e : isSg ⟨#[c]⟩ = decide (c ∈ SIGNS.cps.toList) := by
          unfold isSg
          rw [decide_eq_true h2]
          simp [sgn]
        rw [e] at q
        exact q
      · have h2 : ¬ (z.length : Int) = 1 := fun e => h1 (decide_eq_true (by rw [e]))
        have e : isSg z = false := by
          unfold isSg
          rw [decide_eq_false h2]
          rfl
        rw [e] at q
        exact q
    · obtain ⟨t, ty, kt⟩ := ho.ty (K := K)
      exact ⟨_, rfl, _, .ty "str", t, _, _, rfl, .ty "str", ty, kt, _, rfl, iteF q⟩
theorem ok__is_word_up_to {f : Addr} {fd : FuncData} {k : Nat} (F : Fun K "_is_word_up_to" "_is_word_up_to" s__is_word_up_to f fd) (T : Txt K mg) : FnOk P w K mg base CX0 (k + 1) f fd ["thing", "most"] spUp := by
  refine F.ok sc__is_word_up_to (fun vs H Q E h => ?_) (fun cdv A outer s H vs Q E hr h => ?_)
  · obtain ⟨x, m, rfl, _⟩ := h
    rfl
  · obtain ⟨x, m, rfl, h⟩ := h
    refine ⟨_, (pss_cons (ps_if (PW.pt (pw_or (pt_not (pt_val (pe_callB call_isi (by rfl) T.b_isinstance (by decide +kernel) (pa_cons (pv 0) (pa_cons (pe_bltn (v := .ty "str") (by rfl) T.b_str (by decide +kernel) rfl) pa_nil))))) (pw_or1 (pt_not (pt_chain op_le op_le pe_int (pe_callB call_len_str (by rfl) T.b_len PySem.boot_len (pa_cons (pv 0) pa_nil)) (pv 1)))))) (pss_one (ps_ret pe_bl)) pss_nil)
      (pss_one (ps_ret (pe_callB (cr_all rfl) (by rfl) T.b_all (by decide +kernel) (pa_cons (pe_lc (own := [("sign", 2)]) (g := gName 2) (tt := tYes) rfl sc__is_word_up_to.nd (pi_str (pv 0)) (blkOk_by (own := [("sign", 2)]) (N := sc__is_word_up_to_N) (sc := defScope s__is_word_up_to) (by decide +kernel)) (fun _ _ _ _ _ => (pg_name (i := 2) sc__is_word_up_to.nd rfl (Or.inl rfl))) (fun _ _ _ _ _ => pts_nil) (fun _ _ _ _ _ => (pe_cmpR op_in_sign (pv 2) (pe_gx (by rfl) T.c_SIGNS) (by rfl)))) pa_nil))))), ?_⟩
    rcases h with ⟨z, rfl, hz, q⟩ | ⟨ho, q⟩
    · obtain ⟨t, ty, kt⟩ := str_ty (K := K) (H := H) z
      have hz2 : z.length ≤ sizeLine := Nat.le_trans hz (by decide)
      refine ⟨_, rfl, _, .ty "str", t, _, _, rfl, .ty "str", ty, kt, _, rfl, iteF ?_⟩
      refine ⟨_, rfl, _, rfl, hz2, _, _, rfl, rfl, _, rfl, ite2 (fun h1 => ?_) (fun h1 => ?_)⟩
      · have h1' := of_decide_eq_true h1
        refine ⟨_, rfl, _, _, rfl, rfl, _, rfl, ?_⟩
        by_cases h2 : (z.length : Int) ≤ m
        · rw [decide_eq_true h2]
          refine iteF ?_
          refine ⟨_, rfl, _, rfl, fun D nD => lc_str (z := z) (fun c => .bl (sgn c)) hz (fun c H' R hc h => ⟨_, rfl, c, _, rfl, rfl, h⟩) ?_⟩
          refine ⟨D, z.cps.toList.map sgn, rfl, SqL.of (by rw [upd_same, map_bl]), ?_⟩
          have q2 := q _ (same_new (o := .lst (z.cps.toList.map fun c => .bl (sgn c))) nD)
          unfold upTo at q2
          rw [decide_eq_true h1', decide_eq_true h2] at q2
          rw [all_id]
          exact q2
        · rw [decide_eq_false h2]
          refine iteT ?_
          have q2 := q _ (Same.refl _)
          rw [show upTo z m = false by unfold upTo; rw [decide_eq_false h2]; simp] at q2
          exact q2
      · refine ⟨_, rfl, iteT ?_⟩
        have q2 := q _ (Same.refl _)
        rw [show upTo z m = false by unfold upTo; rw [decide_eq_false (show ¬ (1 : Int) ≤ (z.length : Int) from fun e => h1 (decide_eq_true e))]; simp] at q2
        exact q2
    · obtain ⟨t, ty, kt⟩ := ho.ty (K := K)
      exact ⟨_, rfl, _, .ty "str", t, _, _, rfl, .ty "str", ty, kt, _, rfl, iteT q⟩
theorem ok_is_word {f fu : Addr} {fd fdu : FuncData} {k : Nat} (F : Fun K "is_word" "is_word" s_is_word f fd) (T : Txt K mg) (C__is_word_up_to : Cal P w K mg base CX0 k "_is_word_up_to" ["thing", "most"] spUp fu fdu) : FnOk P w K mg base CX0 (k + 1) f fd ["thing"] (spUpTo 40) := by
  refine F.ok sc_is_word (fun vs H Q E h => ?_) (fun cdv A outer s H vs Q E hr h => ?_)
  · obtain ⟨x, rfl, h⟩ := h
    rfl
  · obtain ⟨x, rfl, h⟩ := h
    refine ⟨_, (pss_one (ps_ret (pe_call C__is_word_up_to.ok hr (by rfl) C__is_word_up_to.mg C__is_word_up_to.kp C__is_word_up_to.b .nil pass0 (pa_cons (pv 0) (pa_cons (pe_gx (by rfl) T.c_LONGEST_WORD) pa_nil))))), ?_⟩
    exact ⟨_, rfl, x, 40, rfl, h⟩
theorem ok__is_fold_word {f fu : Addr} {fd fdu : FuncData} {k : Nat} (F : Fun K "_is_fold_word" "_is_fold_word" s__is_fold_word f fd) (T : Txt K mg) (C__is_word_up_to : Cal P w K mg base CX0 k "_is_word_up_to" ["thing", "most"] spUp fu fdu) : FnOk P w K mg base CX0 (k + 1) f fd ["thing"] (spUpTo 3) := by
  refine F.ok sc__is_fold_word (fun vs H Q E h => ?_) (fun cdv A outer s H vs Q E hr h => ?_)
  · obtain ⟨x, rfl, h⟩ := h
    rfl
  · obtain ⟨x, rfl, h⟩ := h
    refine ⟨_, (pss_one (ps_ret (pe_call C__is_word_up_to.ok hr (by rfl) C__is_word_up_to.mg C__is_word_up_to.kp C__is_word_up_to.b .nil pass0 (pa_cons (pv 0) (pa_cons (pe_gx (by rfl) T.c_LONGEST_FOLD) pa_nil))))), ?_⟩
    exact ⟨_, rfl, x, 3, rfl, h⟩
end
/-! ### the class Table, its facts -/
structure TabA where
  C : Addr
  CW : Addr
  MC : Addr
  pf : Addr
  gf : Addr
  pm : Addr
  gm : Addr
  gc : Addr
  fi : Addr
  fw : Addr
structure TabT (K : Fg) (mg : Str → Option Value) (A : TabA) : Prop where
  cl : Cls K A.C
  nF : NoAttr K A.C "_folds"
  nM : NoAttr K A.C "_marks"
  mgC : mg "Table" = some (.ref A.C)
  p_folds : PropOf K A.C "folds" A.pf A.gf
  p_marks : PropOf K A.C "marks" A.pm A.gm
  co : StX.CallO K A.C A.gc
  mkT : Mk K A.C A.fi
  ow : OexC K A.CW
  nW : PySem.W.findIn K (.ref A.CW) "word" = some none
  mgW : mg "NoWord" = some (.ref A.CW)
  iW : PySem.W.findIn K (.ref A.CW) "__init__" = some (some (.ref A.fw))
  tW : PySem.W.typeIn K (.ref A.fw) = some (.type "function")
  xf : XfC K A.CW
  ex : ExK K A.CW
  te : PySem.W.exmOne K (.ref A.CW) (.ref A.CW) = some true
  mMC : mg "MARK_CLASSES" = some (.ref A.MC)
  kMC : ∃ (dd : Option Addr) (t1 t2 t3 : Tok) (n : Nat) (sl : Array (Option Value)), K.lookup A.MC = some ⟨.type "tuple", dd, .seq ([.int 1 t1, .int 2 t2, .int 3 t3] : List Value).toArray n, sl⟩
theorem TabT.sq {K : Fg} {mg : Str → Option Value} {A : TabA} (T : TabT K mg A) (H : Hp) : SqT K H A.MC CLS := by
  obtain ⟨dd, t1, t2, t3, n, sl, e⟩ := T.kMC
  exact .inr ⟨_, _, n, e, rfl, rfl, (by show 3 ≤ sizeLine; decide), .cons ⟨t1, rfl⟩ (.cons ⟨t2, rfl⟩ (.cons ⟨t3, rfl⟩ .nil))⟩
theorem TabT.gx {K : Fg} {mg : Str → Option Value} {A : TabA} (T : TabT K mg A) : ∃ u, mg "MARK_CLASSES" = some u ∧ RelV (.ref A.MC) u := ⟨_, T.mMC, rfl⟩
/-- a method: its promise, how it is bound -/
structure CalM (P : Program) (w : World) (K : Fg) (mg : Str → Option Value) (base : Heap) (CX : CXT) (k : Nat) (ps : List Str) (sp : Sp) (f : Addr) (fd : FuncData) : Prop where
  ok : FnOk P w K mg base CX k f fd ps sp
  b : Binds K fd ps []
theorem CalM.up {P : Program} {w : World} {K : Fg} {mg : Str → Option Value} {base : Heap} {CX : CXT} {j k : Nat} {ps : List Str} {sp : Sp} {f : Addr} {fd : FuncData} (C : CalM P w K mg base CX j ps sp f fd) (h : j ≤ k) : CalM P w K mg base CX k ps sp f fd := ⟨C.ok.mono h, C.b⟩
theorem CalM.r {P : Program} {w : World} {K : Fg} {mg : Str → Option Value} {base : Heap} {CX : CXT} {k : Nat} {ps : List Str} {sp : Sp} {f : Addr} {fd : FuncData} (C : CalM P w K mg base CX k ps sp f fd) : FnR P w K mg base CX k f sp :=
  (C.ok.raw C.b .nil).imp fun vs H Q E h => by rw [List.append_nil]; exact h
abbrev s_is_number : Stmt := top 20
abbrev sc_is_number_N : List Str := ["thing"]
theorem sc_is_number : FnScope sc_is_number_N ["thing"] (defScope s_is_number) := ⟨rfl, rfl, rfl, by decide +kernel, rfl, by decide +kernel, by decide +kernel⟩
abbrev s__is_mark_class : Stmt := top 21
abbrev sc__is_mark_class_N : List Str := ["thing"]
theorem sc__is_mark_class : FnScope sc__is_mark_class_N ["thing"] (defScope s__is_mark_class) := ⟨rfl, rfl, rfl, by decide +kernel, rfl, by decide +kernel, by decide +kernel⟩
abbrev s__check_folds : Stmt := top 22
abbrev sc__check_folds_N : List Str := ["folds", "key", "sign"]
theorem sc__check_folds : FnScope sc__check_folds_N ["folds"] (defScope s__check_folds) := ⟨rfl, rfl, rfl, by decide +kernel, rfl, by decide +kernel, by decide +kernel⟩
abbrev s__check_marks : Stmt := top 23
abbrev sc__check_marks_N : List Str := ["marks", "folds", "key"]
theorem sc__check_marks : FnScope sc__check_marks_N ["marks", "folds"] (defScope s__check_marks) := ⟨rfl, rfl, rfl, by decide +kernel, rfl, by decide +kernel, by decide +kernel⟩
abbrev s__check_sizes : Stmt := top 24
abbrev sc__check_sizes_N : List Str := ["folds", "marks"]
theorem sc__check_sizes : FnScope sc__check_sizes_N ["folds", "marks"] (defScope s__check_sizes) := ⟨rfl, rfl, rfl, by decide +kernel, rfl, by decide +kernel, by decide +kernel⟩
abbrev s__with_folds : Stmt := top 25
abbrev sc__with_folds_N : List Str := ["folds", "text", "sign"]
theorem sc__with_folds : FnScope sc__with_folds_N ["folds", "text"] (defScope s__with_folds) := ⟨rfl, rfl, rfl, by decide +kernel, rfl, by decide +kernel, by decide +kernel⟩
abbrev s__with_marks_in_order : Stmt := top 26
abbrev sc__with_marks_in_order_N : List Str := ["marks", "text", "sign", "done", "run"]
theorem sc__with_marks_in_order : FnScope sc__with_marks_in_order_N ["marks", "text"] (defScope s__with_marks_in_order) := ⟨rfl, rfl, rfl, by decide +kernel, rfl, by decide +kernel, by decide +kernel⟩
abbrev s__run_in_order : Stmt := top 27
abbrev sc__run_in_order_N : List Str := ["marks", "run", "level", "mark"]
theorem sc__run_in_order : FnScope sc__run_in_order_N ["marks", "run"] (defScope s__run_in_order) := ⟨rfl, rfl, rfl, by decide +kernel, rfl, by decide +kernel, by decide +kernel⟩
abbrev s_key_of : Stmt := top 28
abbrev sc_key_of_N : List Str := ["table", "word"]
theorem sc_key_of : FnScope sc_key_of_N ["table", "word"] (defScope s_key_of) := ⟨rfl, rfl, rfl, by decide +kernel, rfl, by decide +kernel, by decide +kernel⟩
abbrev s_Table___init__ : Stmt := inClass (top 29) 0
abbrev sc_Table___init___N : List Str := ["self", "folds", "marks"]
theorem sc_Table___init__ : FnScope sc_Table___init___N ["self", "folds", "marks"] (defScope s_Table___init__) := ⟨rfl, rfl, rfl, by decide +kernel, rfl, by decide +kernel, by decide +kernel⟩
abbrev s_Table_folds : Stmt := inClass (top 29) 2
abbrev sc_Table_folds_N : List Str := ["self"]
theorem sc_Table_folds : FnScope sc_Table_folds_N ["self"] (defScope s_Table_folds) := ⟨rfl, rfl, rfl, by decide +kernel, rfl, by decide +kernel, by decide +kernel⟩
abbrev s_Table_marks : Stmt := inClass (top 29) 3
abbrev sc_Table_marks_N : List Str := ["self"]
theorem sc_Table_marks : FnScope sc_Table_marks_N ["self"] (defScope s_Table_marks) := ⟨rfl, rfl, rfl, by decide +kernel, rfl, by decide +kernel, by decide +kernel⟩
abbrev s_Table___call__ : Stmt := inClass (top 29) 4
abbrev sc_Table___call___N : List Str := ["self", "word"]
theorem sc_Table___call__ : FnScope sc_Table___call___N ["self", "word"] (defScope s_Table___call__) := ⟨rfl, rfl, rfl, by decide +kernel, rfl, by decide +kernel, by decide +kernel⟩
abbrev s_NoWord___init__ : Stmt := inClass (top 5) 0
abbrev sc_NoWord___init___N : List Str := ["self", "word"]
theorem sc_NoWord___init__ : FnScope sc_NoWord___init___N ["self", "word"] (defScope s_NoWord___init__) := ⟨rfl, rfl, rfl, by decide +kernel, rfl, by decide +kernel, by decide +kernel⟩
section
variable {P : Program} {w : World} {K : Fg} {mg : Str → Option Value} {base : Heap} {A : TabA}
theorem ok_is_number {f : Addr} {fd : FuncData} {k : Nat} (F : Fun K "is_number" "is_number" s_is_number f fd) (T : Txt K mg) : FnOk P w K mg base CX0 (k + 1) f fd ["thing"] spNum := by
  refine F.ok sc_is_number (fun vs H Q E h => ?_) (fun cdv A outer s H vs Q E hr h => ?_)
  · obtain ⟨x, rfl, _⟩ := h
    rfl
  · obtain ⟨x, rfl, hx, q⟩ := h
    refine ⟨_, (pss_one (ps_ret (pe_and (pe_callB call_isi (by rfl) T.b_isinstance (by decide +kernel) (pa_cons (pv 0) (pa_cons (pe_bltn (v := .ty "int") (by rfl) T.b_int (by decide +kernel) rfl) pa_nil))) (pe_one (pe_not (pe_callB call_isi (by rfl) T.b_isinstance (by decide +kernel) (pa_cons (pv 0) (pa_cons (pe_bltn (v := .ty "bool") (by rfl) T.b_bool (by decide +kernel) rfl) pa_nil)))))))), ?_⟩
    obtain ⟨t, b1, b2, ty, k1, k2, e⟩ := hx.ty (K := K)
    refine ⟨_, rfl, _, .ty "int", t, _, b1, rfl, .ty "int", ty, k1, b1, rfl, ?_⟩
    rw [e] at q
    cases b1 with
    | true => exact iteT ⟨_, rfl, _, .ty "bool", t, _, b2, rfl, .ty "bool", ty, k2, b2, rfl, q⟩
    | false => exact iteF q
theorem ok__is_mark_class {f f1 : Addr} {fd fd1 : FuncData} {k : Nat} (F : Fun K "_is_mark_class" "_is_mark_class" s__is_mark_class f fd) (T : Txt K mg) (TT : TabT K mg A) (C_is_number : Cal P w K mg base CX0 k "is_number" ["thing"] spNum f1 fd1) :
    FnOk P w K mg base CX0 (k + 1) f fd ["thing"] spCls := by
  refine F.ok sc__is_mark_class (fun vs H Q E h => ?_) (fun cdv A' outer s H vs Q E hr h => ?_)
  · obtain ⟨i, rfl, _⟩ := h
    rfl
  · obtain ⟨i, rfl, q⟩ := h
    have Tc_MARK_CLASSES := TT.gx
    refine ⟨_, (pss_one (ps_ret (pe_and (pe_call C_is_number.ok hr (by rfl) C_is_number.mg C_is_number.kp C_is_number.b .nil pass0 (pa_cons (pv 0) pa_nil)) (pe_one (pe_cmpR op_in_seq (pv 0) (pe_gx (by rfl) Tc_MARK_CLASSES) (by rfl)))))), ?_⟩
    exact ⟨_, rfl, _, rfl, .o (.int i), true, rfl, iteT ⟨_, rfl, A.MC, CLS, rfl, .inr (TT.sq H), rfl, by decide, q⟩⟩
theorem ok__with_folds {f : Addr} {fd : FuncData} {k : Nat} (F : Fun K "_with_folds" "_with_folds" s__with_folds f fd) : FnOk P w K mg base CX0 (k + 1) f fd ["folds", "text"] spFolded := by
  refine F.ok sc__with_folds (fun vs H Q E h => ?_) (fun cdv A outer s H vs Q E hr h => ?_)
  · obtain ⟨d, z, fs, rfl, _⟩ := h
    rfl
  · obtain ⟨d, z, fs, rfl, hd, hz, h3, q⟩ := h
    have hu := hu_of hr
    refine ⟨_, (pss_one (ps_ret (pe_join pe_str (pe_lc (own := [("sign", 2)]) (g := gName 2) (tt := tYes) rfl sc__with_folds.nd (pi_str (pv 1)) (blkOk_by (own := [("sign", 2)]) (N := sc__with_folds_N) (sc := defScope s__with_folds) (by decide +kernel)) (fun _ _ _ _ _ => (pg_name (i := 2) sc__with_folds.nd rfl (Or.inl rfl))) (fun _ _ _ _ _ => pts_nil) (fun _ _ _ _ _ => (pe_dget2 hu (pv 0) (pv 2) (pv 2) ⟨rfl, rfl, rfl, rfl⟩)))))), ?_⟩
    have e1 : foldL fs z.cps.toList = (z.cps.toList.map (foldC fs)).flatten := rfl
    rw [e1] at q
    have hl : ((z.cps.toList.map (foldC fs)).flatten).length ≤ 3 * z.cps.toList.length := foldL_len fun c hc => by
      unfold foldC
      cases e : lk fs c with
      | none => exact (by decide : 1 ≤ 3)
      | some w => exact h3 _ (lk_mem e)
    refine s_ret (ev_joinS (ls := z.cps.toList.map (foldC fs)) (ev_is ev_c (by rw [emp_str])) ?_ (by rw [← len_str] at hl; omega)) fun H1 e2 => q H1 e2
    have h1 := el_lcS (t := tYes) (σ := start sc__with_folds_N [.ref d, .str z]) (H := H) (j := 2) (vs := [2]) (te := tVar 1) (ta := tDGet2 (tVar 0) (tVar 2) (tVar 2)) (fun _ => true) (fun c => .str (stL (foldC fs c))) (ev_var rfl) (by omega) (fun _ => rfl) (fun _ _ _ _ => et_yes) fun c H2 e3 m _ =>
      ev_is (ev_dget2 (k := Sum.inr (sgS c)) (ev_var rfl) (ev_var rfl) (ev_var rfl) (e3 _ _ hd)) (by rw [valV_kF]; unfold foldC; cases lk fs c <;> rfl)
    rw [List.filter_eq_self.mpr fun _ _ => rfl] at h1
    rw [List.map_map]
    exact h1
theorem ok__run_in_order {f : Addr} {fd : FuncData} {k : Nat} (F : Fun K "_run_in_order" "_run_in_order" s__run_in_order f fd) (TT : TabT K mg A) : FnOk P w K mg base CX0 (k + 1) f fd ["marks", "run"] spRun := by
  refine F.ok sc__run_in_order (fun vs H Q E h => ?_) (fun cdv A' outer s H vs Q E hr h => ?_)
  · obtain ⟨d, z, ms, rfl, _⟩ := h
    rfl
  · obtain ⟨d, z, ms, rfl, hd, hz, hm, q⟩ := h
    have hu := hu_of hr
    have Tc_MARK_CLASSES := TT.gx
    refine ⟨_, (pss_one (ps_ret (pe_join pe_str (pe_lc2 (own := [("level", 2), ("mark", 3)]) (vs1 := [3]) (g := gName 2) (g1 := gName 3) (tt := tYes) rfl sc__run_in_order.nd (pi_tup (pe_gx (by rfl) Tc_MARK_CLASSES)) (blkOk_by (own := [("level", 2), ("mark", 3)]) (N := sc__run_in_order_N) (sc := defScope s__run_in_order) (by decide +kernel)) (by decide) (fun _ _ _ _ _ => (pg_name (i := 2) sc__run_in_order.nd rfl (Or.inl rfl))) (fun _ _ _ _ _ => pts_nil) (fun _ _ _ _ _ => (pi_str (pv 1))) (fun _ _ _ _ _ => (pg_name (i := 3) sc__run_in_order.nd rfl (Or.inl rfl))) (fun _ _ _ _ _ => pts_one (pt_cmpR op_eq (pe_dget hu (pv 0) (pv 3) (fun _ _ => rfl)) (pv 2) (nomark _))) (fun _ _ _ _ _ => (pv 3)))))), ?_⟩
    have e1 : runS ms z.cps.toList = (CLS.map fun x => z.cps.toList.filter fun c => decide ((lk ms c).map V.int = some x)).flatten := by
      have e : ∀ i : Int, (z.cps.toList.filter fun c => decide (lk ms c = some i)) = z.cps.toList.filter fun c => decide ((lk ms c).map V.int = some (V.int i)) := fun i => by
        congr 1
        funext c
        rw [decide_eq_decide]
        constructor
        · intro h
          rw [h]
          rfl
        · intro h
          obtain ⟨j, hj, e⟩ := Option.map_eq_some_iff.mp h
          rw [hj, V.int.inj e]
      unfold runS CLS
      rw [e, e, e]
      simp
    have hl : (runS ms z.cps.toList).length ≤ 3 * z.length := by
      unfold runS
      rw [List.length_append, List.length_append]
      have h0 : z.cps.toList.length = z.length := by simp [Str.length]
      have h1 := List.length_filter_le (fun c => decide (lk ms c = some 1)) z.cps.toList
      have h2 := List.length_filter_le (fun c => decide (lk ms c = some 2)) z.cps.toList
      have h3 := List.length_filter_le (fun c => decide (lk ms c = some 3)) z.cps.toList
      omega
    rw [e1] at q hl
    refine s_ret (ev_join0 (ev_is ev_c (by rw [emp_str])) (el_lc2 (fun x c => decide ((lk ms c).map V.int = some x)) ev_c (TT.sq H) (by omega) (by decide) (fun _ => rfl) (fun _ _ => rfl) (fun x H1 e2 hx => ev_var rfl) (fun x c H1 e2 hx hc => ?_) fun x c H1 e2 hx hc => ev_var rfl) (by omega)) fun H1 e2 => q H1 e2
    obtain ⟨i, hi⟩ := Option.isSome_iff_exists.mp (hm c hc)
    obtain ⟨j, rfl⟩ : ∃ j : Int, x = V.int j := by
      rcases List.mem_cons.mp hx with h | hx
      · exact ⟨_, h⟩
      · rcases List.mem_cons.mp hx with h | hx
        · exact ⟨_, h⟩
        · exact ⟨_, List.mem_singleton.mp hx⟩
    refine et_is (et_test (ev_eqI (ev_dget (k := Sum.inr (sgS c)) (v := V.int i) (ev_var rfl) (ev_var rfl) (e2 _ _ hd) (by rw [valV_kM, hi]; rfl)) (ev_var rfl))) ?_
    rw [hi, decide_eq_decide]
    show i = j ↔ some (V.int i) = some (V.int j)
    exact ⟨fun h => by rw [h], fun h => V.int.inj (Option.some.inj h)⟩
end
section
variable {P : Program} {w : World} {K : Fg} {mg : Str → Option Value} {base : Heap} {A : TabA}
theorem sp_run {H : Hp} {d : Addr} {ms : Mks} {l : List Nat} (hd : H d = some (.dK (kM ms))) (hl : l.length ≤ 5000) (hm : ∀ c ∈ l, isM ms c = true) : SpV spRun ([.ref d, .str (stL l)] ++ []) H (.str (stL (runS ms l))) := fun H1 e Q q _ =>
  ⟨d, stL l, ms, rfl, e _ _ hd, by rw [stL_len]; exact hl, by rw [stL_codes]; exact hm, fun H2 e2 => by rw [stL_codes]; exact q H2 e2⟩
theorem ordL_none {ms : Mks} : ∀ {l run : List Nat}, (∀ c ∈ l, isM ms c = false) → run = [] → ordL ms l run = l
  | [], _, _, rfl => rfl
  | c :: r, _, h, rfl => by
    rw [ordL_sign (h c (List.mem_cons_self ..)), ordL_none (fun b hb => h b (List.mem_cons_of_mem _ hb)) rfl]
    rfl
theorem ok__with_marks_in_order {f f1 : Addr} {fd fd1 : FuncData} {k : Nat} (F : Fun K "_with_marks_in_order" "_with_marks_in_order" s__with_marks_in_order f fd) (T : Txt K mg) (C__run_in_order : Cal P w K mg base CX0 k "_run_in_order" ["marks", "run"] spRun f1 fd1) :
    FnOk P w K mg base CX0 (k + 1) f fd ["marks", "text"] spMarks := by
  refine F.ok sc__with_marks_in_order (fun vs H Q E h => ?_) (fun cdv A' outer s H vs Q E hr h => ?_)
  · obtain ⟨d, z, ms, rfl, _⟩ := h
    rfl
  · obtain ⟨d, z, ms, rfl, hd, hz, ok, q⟩ := h
    have hu := hu_of hr
    have hzl : z.cps.toList.length = z.length := by simp [Str.length]
    refine ⟨_, (pss_cons (ps_if (pt_not (pt_val (pe_callB (cr_any rfl) (by rfl) T.b_any (by decide +kernel) (pa_cons (pe_lc (own := [("sign", 2)]) (g := gName 2) (tt := tYes) rfl sc__with_marks_in_order.nd (pi_str (pv 1)) (blkOk_by (own := [("sign", 2)]) (N := sc__with_marks_in_order_N) (sc := defScope s__with_marks_in_order) (by decide +kernel)) (fun _ _ _ _ _ => (pg_name (i := 2) sc__with_marks_in_order.nd rfl (Or.inl rfl))) (fun _ _ _ _ _ => pts_nil) (fun _ _ _ _ _ => (pe_cmp (pc_din hu (pv 2) (pv 0)) rfl))) pa_nil)))) (pss_one (ps_ret (pv 1))) pss_nil)
      (pss_cons (ps_set (i := 3) sc__with_marks_in_order.nd rfl (Or.inl rfl) pe_str)
      (pss_cons (ps_set (i := 4) sc__with_marks_in_order.nd rfl (Or.inl rfl) pe_str)
      (pss_cons (ps_for PassesOwn.never rfl (pi_str (pv 1)) (pg_name (i := 2) sc__with_marks_in_order.nd rfl (Or.inl rfl)) (pss_one (ps_if (pt_cmp (pc_din hu (pv 2) (pv 0))) (pss_one (ps_set (i := 4) sc__with_marks_in_order.nd rfl (Or.inl rfl) (pe_op op_add_str (pv 4) (pv 2)))) (pss_cons (ps_set (i := 3) sc__with_marks_in_order.nd rfl (Or.inl rfl) (pe_op op_add_str (pe_op op_add_str (pv 3) (pe_call C__run_in_order.ok hr (by rfl) C__run_in_order.mg C__run_in_order.kp C__run_in_order.b .nil pass0 (pa_cons (pv 0) (pa_cons (pv 4) pa_nil)))) (pv 2)))
      (pss_one (ps_set (i := 4) sc__with_marks_in_order.nd rfl (Or.inl rfl) pe_str))))))
      (pss_one (ps_ret (pe_op op_add_str (pv 3) (pe_call C__run_in_order.ok hr (by rfl) C__run_in_order.mg C__run_in_order.kp C__run_in_order.b .nil pass0 (pa_cons (pv 0) (pa_cons (pv 4) pa_nil)))))))))), ?_⟩
    have lc := el_lcS (t := tYes) (σ := start sc__with_marks_in_order_N [.ref d, .str z]) (H := H) (j := 2) (vs := [2]) (te := tVar 1) (ta := tDIn (tVar 2) (tVar 0)) (fun _ => true) (fun c => .bl (isM ms c)) (ev_var rfl) (by omega) (fun _ => rfl) (fun _ _ _ _ => et_yes) fun c H4 e4 m _ =>
      ev_is (ev_din (k := Sum.inr (sgS c)) (ev_var rfl) (ev_var rfl) (e4 _ _ hd)) (by rw [valV_kM]; unfold isM; cases lk ms c <;> rfl)
    rw [List.filter_eq_self.mpr fun _ _ => rfl, map_bl] at lc
    cases hn : z.cps.toList.any (isM ms) with
    | false =>
      refine q_when (b := true) (et_is (et_not (et_B (ev_any lc))) (by rw [List.any_map, Function.id_comp]; show (!(z.cps.toList.any (isM ms))) = true; rw [hn]; rfl)) (fun _ H1 e1 => s_ret (ev_is (ev_var rfl) ?_) fun H2 e2 => q H2 (e1.trans e2)) (fun z => nomatch z)
      have h0 : ordL ms z.cps.toList [] = z.cps.toList := ordL_none (fun c hc => by simpa using List.any_eq_false.mp hn c hc) rfl
      rw [h0]
      exact congrArg V.str (Str.ext' (Array.toList_inj.mp (by rw [stL_codes])))
    | true =>
    refine q_when (b := false) (et_is (et_not (et_B (ev_any lc))) (by rw [List.any_map, Function.id_comp]; show (!(z.cps.toList.any (isM ms))) = false; rw [hn]; rfl)) (fun z => nomatch z) fun _ H0 e0 => ?_
    have em : V.str (Str.ofString "") = V.str (stL []) := by rw [emp_str]; rfl
    refine q_asg (ev_is ev_c em) fun H1 e1' => q_asg (ev_is ev_c em) fun H2 e2 => ?_
    have e1 := e0.trans e1'
    refine ⟨_, rfl, z, rfl, for_it walk_str (fun i σ' H' => ∃ (dn rn : List Nat) (y : Option V), σ' = [some (.ref d), some (.str z), y, some (.str (stL dn)), some (.str (stL rn))] ∧ Ex H H' ∧ (∀ c ∈ rn, isM ms c = true) ∧
      dn.length + rn.length ≤ i ∧ dn ++ ordL ms (z.cps.toList.drop i) rn = ordL ms z.cps.toList []) ⟨[], [], none, rfl, e1.trans e2, (fun c h => absurd h List.not_mem_nil), Nat.le_refl 0, by simp⟩ (fun _ _ _ _ _ => trivial) ?_ ?_⟩
    · rintro i x σ' H3 H3' hi ⟨dn, rn, y, rfl, e3, hm, hlen, heq⟩ ⟨rfl, c, hc, rfl⟩
      have hi' : i < z.length := hi
      have hc' : z.cps.toList[i]? = some c := by rw [Array.getElem?_toList]; exact hc
      have hdrop : z.cps.toList.drop i = c :: z.cps.toList.drop (i + 1) := by
        obtain ⟨h1, h2⟩ := List.getElem?_eq_some_iff.mp hc'
        rw [List.drop_eq_getElem_cons h1, h2]
      rw [hdrop] at heq
      refine s_if (b := isM ms c) (et_is (et_B (ev_din (k := Sum.inr (sgS c)) (ev_var rfl) (ev_var rfl) (e3 _ _ hd))) (by rw [valV_kM]; unfold isM; cases lk ms c <;> rfl)) (fun hb H4 e4 => ?_) (fun hb H4 e4 => ?_)
      · rw [ordL_mark hb] at heq
        refine s_asg (ev_is (ev_addS (ev_var rfl) (ev_var rfl) (by rw [stL_len]; show _ + 1 ≤ _; omega)) (show V.str (stL rn ++ sgS c) = V.str (stL (rn ++ [c])) by rw [sgS_stL, stL_app])) fun H5 e5 => ⟨dn, rn ++ [c], _, rfl, (e3.trans e4).trans e5, ?_, ?_, heq⟩
        · intro b hb'
          rcases List.mem_append.mp hb' with h | h
          · exact hm b h
          · rw [List.mem_singleton.mp h]
            exact hb
        · rw [List.length_append]
          show _ + (_ + 1) ≤ _
          omega
      · rw [ordL_sign hb] at heq
        have hrl : (runS ms rn).length = rn.length := len_runS ok hm
        refine q_asg (ev_is (ev_addS (ev_addS (ev_var rfl) (ev_call (ea_cons (ev_var rfl) (ea_cons (ev_var rfl) ea_nil)) (sp_run ((e3.trans e4) _ _ hd) (by omega) hm)) (by rw [stL_len, stL_len]; omega)) (ev_var rfl) (by rw [stL_app, stL_len, List.length_append]; show _ + 1 ≤ _; omega))
          (show V.str (stL dn ++ stL (runS ms rn) ++ sgS c) = V.str (stL (dn ++ runS ms rn ++ [c])) by rw [sgS_stL, stL_app, stL_app])) fun H5 e5 => ?_
        refine s_asg (ev_is ev_c em) fun H6 e6 => ⟨dn ++ runS ms rn ++ [c], [], _, rfl, ((e3.trans e4).trans e5).trans e6, (fun c h => absurd h List.not_mem_nil), ?_, ?_⟩
        · rw [List.length_append, List.length_append]
          show _ + 1 + 0 ≤ _
          omega
        · rw [← heq]
          simp
    · rintro σ' H3 ⟨dn, rn, y, rfl, e3, hm, hlen, heq⟩
      have hlen' : dn.length + rn.length ≤ z.length := hlen
      have hrl : (runS ms rn).length = rn.length := len_runS ok hm
      have e9 : z.cps.toList.drop z.cps.size = [] := List.drop_of_length_le (by simp)
      rw [e9] at heq
      refine s_ret (ev_is (ev_addS (ev_var rfl) (ev_call (ea_cons (ev_var rfl) (ea_cons (ev_var rfl) ea_nil)) (sp_run (e3 _ _ hd) (by omega) hm)) (by rw [stL_len, stL_len]; omega)) (show V.str (stL dn ++ stL (runS ms rn)) = V.str (stL (ordL ms z.cps.toList [])) by rw [stL_app, ← heq]; rfl)) fun H4 e4 => q H4 (e3.trans e4)
/-- the two properties -/
theorem ok_folds {f : Addr} {fd : FuncData} {k : Nat} (F : Fun K "folds" "Table.folds" s_Table_folds f fd) (T : Txt K mg) (TT : TabT K mg A) : FnOk P w K mg base CX0 (k + 1) f fd ["self"] (spProp A.C "_folds") := by
  refine F.ok sc_Table_folds (fun vs H Q E h => ?_) (fun cdv A' outer s H vs Q E hr h => ?_)
  · obtain ⟨a, dx, fs, p, kvs, rfl, _⟩ := h
    rfl
  · obtain ⟨a, dx, fs, p, kvs, rfl, ha, hf, hp, q⟩ := h
    refine ⟨_, (pss_one (ps_ret (pe_callTy call_dictD (by rfl) T.b_dict (by decide +kernel) (pa_cons (pe_fld (pv 0) rfl) pa_nil)))), ?_⟩
    exact ⟨_, rfl, a, A.C, dx, fs, .ref p, rfl, ha, TT.cl, TT.nF, hf, p, kvs, rfl, .inl hp, q⟩
theorem ok_marks {f : Addr} {fd : FuncData} {k : Nat} (F : Fun K "marks" "Table.marks" s_Table_marks f fd) (T : Txt K mg) (TT : TabT K mg A) : FnOk P w K mg base CX0 (k + 1) f fd ["self"] (spProp A.C "_marks") := by
  refine F.ok sc_Table_marks (fun vs H Q E h => ?_) (fun cdv A' outer s H vs Q E hr h => ?_)
  · obtain ⟨a, dx, fs, p, kvs, rfl, _⟩ := h
    rfl
  · obtain ⟨a, dx, fs, p, kvs, rfl, ha, hf, hp, q⟩ := h
    refine ⟨_, (pss_one (ps_ret (pe_callTy call_dictD (by rfl) T.b_dict (by decide +kernel) (pa_cons (pe_fld (pv 0) rfl) pa_nil)))), ?_⟩
    exact ⟨_, rfl, a, A.C, dx, fs, .ref p, rfl, ha, TT.cl, TT.nM, hf, p, kvs, rfl, .inl hp, q⟩
theorem ok_key_of {f f1 f2 : Addr} {fd fd1 fd2 : FuncData} {k : Nat} (F : Fun K "key_of" "key_of" s_key_of f fd) (TT : TabT K mg A)
    (C__with_marks_in_order : Cal P w K mg base CX0 k "_with_marks_in_order" ["marks", "text"] spMarks f1 fd1) (C__with_folds : Cal P w K mg base CX0 k "_with_folds" ["folds", "text"] spFolded f2 fd2) : FnOk P w K mg base CX0 (k + 2) f fd ["table", "word"] (spKeyOf A.C) := by
  refine F.ok sc_key_of (fun vs H Q E h => ?_) (fun cdv A' outer s H vs Q E hr h => ?_)
  · obtain ⟨a, z, fs, ms, rfl, _⟩ := h
    rfl
  · obtain ⟨a, z, fs, ms, rfl, ⟨dx, p, pm, ha, hp, hpm⟩, ro, hz, q⟩ := h
    have hr1 : Room k _ := hr.mono (by omega)
    have hzl : z.cps.toList.length = z.length := by simp [Str.length]
    refine ⟨_, (pss_one (ps_ret (pe_call C__with_marks_in_order.ok hr1 (by rfl) C__with_marks_in_order.mg C__with_marks_in_order.kp C__with_marks_in_order.b .nil pass0 (pa_cons (pe_fld (pv 0) rfl) (pa_cons (pe_call C__with_folds.ok hr1 (by rfl) C__with_folds.mg C__with_folds.kp C__with_folds.b .nil pass0 (pa_cons (pe_fld (pv 0) rfl) (pa_cons (pv 1) pa_nil))) pa_nil))))), ?_⟩
    refine ⟨_, rfl, a, A.C, dx, _, .ref pm, rfl, ha, TT.cl, TT.nM, tabF_m _ _, ?_⟩
    refine ⟨_, rfl, a, A.C, dx, _, .ref p, rfl, ha, TT.cl, TT.nF, tabF_f _ _, ?_⟩
    refine ⟨_, rfl, p, z, fs, rfl, hp, hz, fun x hx => (ro.fw x hx).1.le, fun H3 e3 => ?_⟩
    have hfl : (foldL fs z.cps.toList).length ≤ 3 * z.cps.toList.length := foldL_len fun c hc => by
      unfold foldC
      cases e : lk fs c with
      | none => exact (by decide : 1 ≤ 3)
      | some w => exact (ro.fw _ (lk_mem e)).1.le
    refine ⟨pm, _, ms, rfl, e3 _ _ hpm, by rw [stL_len]; omega, ro.okM, fun H4 e4 => ?_⟩
    rw [stL_codes]
    exact q H4 (e3.trans e4)
/-- NoWord.__init__ -/
def spNoWI (CW : Addr) : Sp := fun vs H Q _ => ∃ a x, vs = [.ref a, x] ∧ H a = some (exo a CW none) ∧ ∀ d, H d = none → d ≠ a → Q .non (upd (upd H d (exd d [(("word" : Str), x)])) a (exo a CW (some d)))
theorem ok_noword {f : Addr} {fd : FuncData} {k : Nat} (F : Fun K "__init__" "NoWord.__init__" s_NoWord___init__ f fd) (TT : TabT K mg A) : FnOk P w K mg base CX0 (k + 1) f fd ["self", "word"] (spNoWI A.CW) := by
  refine F.ok sc_NoWord___init__ (fun vs H Q E h => ?_) (fun cdv A' outer s H vs Q E hr h => ?_)
  · obtain ⟨a, x, rfl, _⟩ := h
    rfl
  · obtain ⟨a, x, rfl, ha, q⟩ := h
    refine ⟨_, (pss_one (ps_ost (pv 0) (pv 1))), ?_⟩
    exact ⟨_, rfl, _, rfl, a, A.CW, rfl, TT.ow, TT.nW, .inl ⟨ha, q⟩⟩
theorem ok_call {f f1 f2 : Addr} {fd fd1 fd2 fd3 : FuncData} {k : Nat} (F : Fun K "__call__" "Table.__call__" s_Table___call__ f fd) (TT : TabT K mg A) (C_is_word : Cal P w K mg base CX0 k "is_word" ["thing"] (spUpTo 40) f1 fd1)
    (C_key_of : Cal P w K mg base CX0 k "key_of" ["table", "word"] (spKeyOf A.C) f2 fd2) (C_nowI : CalM P w K mg base CX0 k ["self", "word"] (spNoWI A.CW) A.fw fd3) : FnOk P w K mg base (L2.CX P w) (k + 2) f fd ["self", "word"] (spCallT A.C A.CW) := by
  refine F.okX sc_Table___call__ (fun vs H Q E h => ?_) (fun cdv A' outer s H vs Q E hr h => ?_)
  · obtain ⟨a, x, fs, ms, rfl, _⟩ := h
    rfl
  · obtain ⟨a, x, fs, ms, rfl, ht, ro, h⟩ := h
    have hr1 : Room k _ := hr.mono (by omega)
    refine ⟨_, (pss_cons (ps_if (pt_not (pt_val (pe_call C_is_word.ok hr1 (by rfl) C_is_word.mg C_is_word.kp C_is_word.b .nil pass0 (pa_cons (pv 1) pa_nil)))) (pss_one (ps_raise rfl (takes_of rfl rfl rfl rfl) (pmk_oex TT.ow TT.iW TT.tW C_nowI.ok hr C_nowI.b .nil pass0 (by rfl) TT.mgW (pa_cons (pv 1) pa_nil)))) pss_nil)
      (pss_one (ps_ret (pe_call C_key_of.ok hr1 (by rfl) C_key_of.mg C_key_of.kp C_key_of.b .nil pass0 (pa_cons (pv 0) (pa_cons (pv 1) pa_nil)))))), ?_⟩
    -- NoWord(word)
    have bad : ∀ H1, Same H H1 → NoW A.CW x H E → tMkO A.CW (spNoWI A.CW) [] (tCons (tVar 1) tNil) (start sc_Table___call___N [.ref a, x]) H1 (fun cls d H' => E cls d H') := fun H1 s1 nw => by
      refine ⟨_, rfl, (by decide : 1 ≤ 1000), fun e ne => ⟨e, x, rfl, upd_same, fun d hd hne => ⟨rfl, d, [(("word" : Str), x)], upd_same, (upd_ne hne).trans upd_same, ?_, ?_⟩⟩⟩
      · rw [← hd, upd_ne hne]
      · have hd1 : H1 d = none := by rw [← hd, upd_ne hne]
        refine nw d _ (s1.free hd1) (fun b o hb => ?_) upd_same
        have h1 := s1 _ _ hb
        rw [upd_ne (ne_of_none h1 hd1), del_ne (ne_of_none h1 ne), upd_ne (ne_of_none h1 ne), upd_ne (ne_of_none h1 hd1), upd_ne (ne_of_none h1 ne)]
        exact h1
    rcases h with ⟨z, rfl, hz, h1, h2⟩ | ⟨ho, nw⟩
    · refine ⟨_, rfl, _, rfl, .inl ⟨z, rfl, by omega, fun H1 s1 => ⟨_, rfl, ?_⟩⟩⟩
      cases hb : upTo z 40 with
      | true => exact iteF ⟨_, rfl, _, rfl, a, z, fs, ms, rfl, ht.same s1, ro, hz, fun H2 e2 => h1 hb H2 (s1.trans e2)⟩
      | false => exact iteT (bad H1 s1 (h2 hb))
    · exact ⟨_, rfl, _, rfl, .inr ⟨ho, _, rfl, iteT (bad H (Same.refl H) nw)⟩⟩
end
section
variable {P : Program} {w : World} {K : Fg} {mg : Str → Option Value} {base : Heap} {A : TabA}
theorem sp_sign {H : Hp} {c : Nat} : SpV spSg ([.str (sgS c)] ++ []) H (.bl (sgn c)) := fun H1 e Q q _ => ⟨_, rfl, .inl ⟨sgS c, rfl, (by show 1 ≤ 100000; decide), by rw [isSg_sg]; exact q H1 (Ex.refl _)⟩⟩
theorem sp_fits {H : Hp} {l : List Nat} {n : Nat} (hl : l.length ≤ 100000) (h : Wd l n) : SpV (spUpTo n) ([.str (stL l)] ++ []) H (.bl true) := fun H1 e Q q _ =>
  ⟨_, rfl, .inl ⟨stL l, rfl, by rw [stL_len]; exact hl, fun H2 s => by rw [upTo_iff.mpr h]; exact q H2 s⟩⟩
theorem sp_class {H : Hp} {i : Int} (h : i = 1 ∨ i = 2 ∨ i = 3) : SpV spCls ([.int i] ++ []) H (.bl true) := fun H1 e Q q _ => ⟨i, rfl, by rw [clB_ok h]; exact q H1 (Ex.refl _)⟩
theorem key_mem {α : Type} {l : List (Nat × α)} {ys : List Str} {i : Nat} {x : V} (hp : ys.Perm ((l.map (·.1)).map sgS)) (hx : (ys.map V.str)[i]? = some x) : ∃ p ∈ l, x = .str (sgS p.1) := by
  obtain ⟨y, hy, rfl⟩ := List.mem_map.mp (List.mem_of_getElem? hx)
  obtain ⟨c, hc, rfl⟩ := List.mem_map.mp (hp.mem_iff.mp hy)
  obtain ⟨p, hp, rfl⟩ := List.mem_map.mp hc
  exact ⟨p, hp, rfl⟩
theorem ok__check_folds {f f1 f2 : Addr} {fd fd1 fd2 : FuncData} {k : Nat} (F : Fun K "_check_folds" "_check_folds" s__check_folds f fd) (T : Txt K mg) (C_is_sign : Cal P w K mg base CX0 k "is_sign" ["thing"] spSg f1 fd1)
    (C__is_fold_word : Cal P w K mg base CX0 k "_is_fold_word" ["thing"] (spUpTo 3) f2 fd2) : FnOk P w K mg base CX0 (k + 1) f fd ["folds"] spChkF := by
  refine F.ok sc__check_folds (fun vs H Q E h => ?_) (fun cdv A' outer s H vs Q E hr h => ?_)
  · obtain ⟨d, fs, ms, rfl, _⟩ := h
    rfl
  · obtain ⟨d, fs, ms, rfl, hd, ro, q⟩ := h
    have hu := hu_of hr
    refine ⟨_, (pss_one (ps_for PassesOwn.never rfl (pi_list (pe_callB (call_sortedD rfl) (by rfl) T.b_sorted (by decide +kernel) (pa_cons (pv 0) pa_nil))) (pg_name (i := 1) sc__check_folds.nd rfl (Or.inl rfl)) (pss_cons (ps_if (pt_not (pt_val (pe_call C_is_sign.ok hr (by rfl) C_is_sign.mg C_is_sign.kp C_is_sign.b .nil pass0 (pa_cons (pv 1) pa_nil)))) (pss_one ps_never) pss_nil)
      (pss_cons (ps_if (pt_not (pt_val (pe_call C__is_fold_word.ok hr (by rfl) C__is_fold_word.mg C__is_fold_word.kp C__is_fold_word.b .nil pass0 (pa_cons (pe_dget hu (pv 0) (pv 1) (fun _ _ => rfl)) pa_nil)))) (pss_one ps_never) pss_nil)
      (pss_one (ps_if (pt_val (pe_callB (cr_any rfl) (by rfl) T.b_any (by decide +kernel) (pa_cons (pe_lc (own := [("sign", 2)]) (g := gName 2) (tt := tYes) rfl sc__check_folds.nd (pi_str (pe_dget hu (pv 0) (pv 1) (fun _ _ => rfl))) (blkOk_by (own := [("sign", 2)]) (N := sc__check_folds_N) (sc := defScope s__check_folds) (by decide +kernel)) (fun _ _ _ _ _ => (pg_name (i := 2) sc__check_folds.nd rfl (Or.inl rfl))) (fun _ _ _ _ _ => pts_nil) (fun _ _ _ _ _ => (pe_cmp (pc_din hu (pv 2) (pv 0)) rfl))) pa_nil))) (pss_one ps_never) pss_nil)))))), ?_⟩
    refine ⟨_, rfl, d, kF fs, _, rfl, .inl hd, kF_keys fs, by rw [List.length_map, List.length_map]; have := ro.fl; omega, fun ys p perm _ np => ⟨p, rfl, ⟨_, sq_of upd_same⟩, ?_⟩⟩
    have s0 := same_new (o := .lst (ys.map V.str)) np
    refine for_it walk_list (fun i σ' H' => ∃ y1 y2, σ' = [some (.ref d), y1, y2] ∧ Same (upd H p (.lst (ys.map V.str))) H') ⟨none, none, rfl, Same.refl _⟩ (fun i σ' H' _ ⟨_, _, _, s1⟩ => sq_of (s1 _ _ upd_same)) ?_ ?_
    · rintro i x σ' H1 H1' hi ⟨y1, y2, rfl, s1⟩ ⟨rfl, hx⟩
      obtain ⟨⟨c, l⟩, hp, rfl⟩ := key_mem perm hx
      have hd1 : H1' d = some (.dK (kF fs)) := s1 _ _ (s0 _ _ hd)
      have hl := lk_of_mem ro.fn hp
      obtain ⟨hw, hn⟩ := ro.fw _ hp
      have hlen : l.length ≤ 3 := hw.le
      have get : ∀ {σ : L2.St} {H2 : Hp} {y : Option V}, Ex H1' H2 → σ = [some (.ref d), some (.str (sgS c)), y] → Ev (tDGet (tVar 0) (tVar 1)) σ H2 (.str (stL l)) := fun e2 es => by
        subst es
        exact ev_dget (k := Sum.inr (sgS c)) (ev_var rfl) (ev_var rfl) (e2 _ _ hd1) (by rw [valV_kF, hl]; rfl)
      refine q_when (b := false) (et_is (et_not (et_B (ev_call (ea_cons (ev_var rfl) ea_nil) sp_sign))) (by rw [ro.fk _ hp]; rfl)) (fun z => nomatch z) fun _ H2 e2 => ?_
      refine q_when (b := false) (et_is (et_not (et_B (ev_call (ea_cons (get e2 rfl) ea_nil) (sp_fits (n := 3) (by omega) hw)))) rfl) (fun z => nomatch z) fun _ H3 e3 => ?_
      have lc := el_lcS (t := tYes) (σ := [some (.ref d), some (.str (sgS c)), y2]) (H := H3) (j := 2) (vs := [2]) (te := tDGet (tVar 0) (tVar 1)) (ta := tDIn (tVar 2) (tVar 0)) (fun _ => true) (fun c => .bl (lk fs c).isSome) (get (e2.trans e3) rfl) (by rw [stL_len]; omega) (fun _ => rfl) (fun _ _ _ _ => et_yes) fun c H4 e4 m _ =>
        ev_is (ev_din (k := Sum.inr (sgS c)) (ev_var rfl) (ev_var rfl) (((e2.trans e3).trans e4) _ _ hd1)) (by rw [valV_kF]; cases lk fs c <;> rfl)
      rw [List.filter_eq_self.mpr fun _ _ => rfl, stL_codes, map_bl] at lc
      refine s_when (b := false) (et_is (et_B (ev_any lc)) ?_) (fun z => nomatch z) fun _ H4 e4 => ⟨_, _, rfl, s1.trans ((e2.trans e3).trans e4)⟩
      rw [List.any_map, List.any_eq_false]
      intro c' hc'
      simp [hn c' hc']
    · rintro σ' H1 ⟨y1, y2, rfl, s1⟩
      exact q H1 (s0.trans s1)
theorem ok__check_marks {f f1 f2 : Addr} {fd fd1 fd2 : FuncData} {k : Nat} (F : Fun K "_check_marks" "_check_marks" s__check_marks f fd) (T : Txt K mg) (C_is_sign : Cal P w K mg base CX0 k "is_sign" ["thing"] spSg f1 fd1)
    (C__is_mark_class : Cal P w K mg base CX0 k "_is_mark_class" ["thing"] spCls f2 fd2) : FnOk P w K mg base CX0 (k + 1) f fd ["marks", "folds"] spChkM := by
  refine F.ok sc__check_marks (fun vs H Q E h => ?_) (fun cdv A' outer s H vs Q E hr h => ?_)
  · obtain ⟨dm, df, fs, ms, rfl, _⟩ := h
    rfl
  · obtain ⟨dm, df, fs, ms, rfl, hf, hm, ro, q⟩ := h
    have hu := hu_of hr
    refine ⟨_, (pss_one (ps_for PassesOwn.never rfl (pi_list (pe_callB (call_sortedD rfl) (by rfl) T.b_sorted (by decide +kernel) (pa_cons (pv 0) pa_nil))) (pg_name (i := 2) sc__check_marks.nd rfl (Or.inl rfl)) (pss_cons (ps_if (pt_not (pt_val (pe_call C_is_sign.ok hr (by rfl) C_is_sign.mg C_is_sign.kp C_is_sign.b .nil pass0 (pa_cons (pv 2) pa_nil)))) (pss_one ps_never) pss_nil)
      (pss_one (ps_if (PW.pt (pw_or (pt_not (pt_val (pe_call C__is_mark_class.ok hr (by rfl) C__is_mark_class.mg C__is_mark_class.kp C__is_mark_class.b .nil pass0 (pa_cons (pe_dget hu (pv 0) (pv 2) (fun _ _ => rfl)) pa_nil)))) (pw_or1 (pt_cmp (pc_din hu (pv 2) (pv 1)))))) (pss_one ps_never) pss_nil))))), ?_⟩
    refine ⟨_, rfl, dm, kM ms, _, rfl, .inl hm, kM_keys ms, by rw [List.length_map, List.length_map]; have := ro.ml; omega, fun ys p perm _ np => ⟨p, rfl, ⟨_, sq_of upd_same⟩, ?_⟩⟩
    have s0 := same_new (o := .lst (ys.map V.str)) np
    refine for_it walk_list (fun i σ' H' => ∃ y1, σ' = [some (.ref dm), some (.ref df), y1] ∧ Same (upd H p (.lst (ys.map V.str))) H') ⟨none, rfl, Same.refl _⟩ (fun i σ' H' _ ⟨_, _, s1⟩ => sq_of (s1 _ _ upd_same)) ?_ ?_
    · rintro i x σ' H1 H1' hi ⟨y1, rfl, s1⟩ ⟨rfl, hx⟩
      obtain ⟨⟨c, n⟩, hp, rfl⟩ := key_mem perm hx
      have hm1 : H1' dm = some (.dK (kM ms)) := s1 _ _ (s0 _ _ hm)
      have hf1 : H1' df = some (.dK (kF fs)) := s1 _ _ (s0 _ _ hf)
      have hl := lk_of_mem ro.mn hp
      refine q_when (b := false) (et_is (et_not (et_B (ev_call (ea_cons (ev_var rfl) ea_nil) sp_sign))) (by rw [(ro.mg _ hp).1]; rfl)) (fun z => nomatch z) fun _ H2 e2 => ?_
      refine s_when (b := false) (et_is (et_or (et_not (et_B (ev_call (ea_cons (ev_dget (k := Sum.inr (sgS c)) (v := .int n) (ev_var rfl) (ev_var rfl) (e2 _ _ hm1) (by rw [valV_kM, hl]; rfl)) ea_nil) (sp_class (ro.mc _ hp))))) fun _ => et_B (ev_din (k := Sum.inr (sgS c)) (ev_var rfl) (ev_var rfl) (e2 _ _ hf1))) ?_) (fun z => nomatch z) fun _ H3 e3 => ⟨_, rfl, s1.trans (e2.trans e3)⟩
      rw [valV_kF, (ro.mg _ hp).2]
      rfl
    · rintro σ' H1 ⟨y1, rfl, s1⟩
      exact q H1 (s0.trans s1)
theorem ok__check_sizes {f : Addr} {fd : FuncData} {k : Nat} (F : Fun K "_check_sizes" "_check_sizes" s__check_sizes f fd) (T : Txt K mg) : FnOk P w K mg base CX0 (k + 1) f fd ["folds", "marks"] spChkS := by
  refine F.ok sc__check_sizes (fun vs H Q E h => ?_) (fun cdv A' outer s H vs Q E hr h => ?_)
  · obtain ⟨dm, df, fs, ms, rfl, _⟩ := h
    rfl
  · obtain ⟨dm, df, fs, ms, rfl, hf, hm, ro, q⟩ := h
    refine ⟨_, (pss_cons (ps_if (pt_cmpR op_gt (pe_callB call_lenD (by rfl) T.b_len PySem.boot_len (pa_cons (pv 0) pa_nil)) (pe_gx (by rfl) T.c_MOST_FOLDS) (nomark _)) (pss_one ps_never) pss_nil)
      (pss_one (ps_if (pt_cmpR op_gt (pe_callB call_lenD (by rfl) T.b_len PySem.boot_len (pa_cons (pv 1) pa_nil)) (pe_gx (by rfl) T.c_MOST_MARKS) (nomark _)) (pss_one ps_never) pss_nil))), ?_⟩
    have h1 := ro.fl
    have h2 := ro.ml
    refine ⟨_, rfl, df, _, rfl, hf, _, _, rfl, rfl, _, rfl, ?_⟩
    rw [kF_len, decide_eq_false (show ¬ (40 : Int) < ((fs.length : Nat) : Int) by omega)]
    refine iteF ⟨_, rfl, dm, _, rfl, hm, _, _, rfl, rfl, _, rfl, ?_⟩
    rw [kM_len, decide_eq_false (show ¬ (8 : Int) < ((ms.length : Nat) : Int) by omega)]
    exact iteF q
theorem ok_init {f f1 f2 f3 : Addr} {fd fd1 fd2 fd3 : FuncData} {k : Nat} (F : Fun K "__init__" "Table.__init__" s_Table___init__ f fd) (T : Txt K mg) (TT : TabT K mg A) (C__check_folds : Cal P w K mg base CX0 k "_check_folds" ["folds"] spChkF f1 fd1)
    (C__check_marks : Cal P w K mg base CX0 k "_check_marks" ["marks", "folds"] spChkM f2 fd2) (C__check_sizes : Cal P w K mg base CX0 k "_check_sizes" ["folds", "marks"] spChkS f3 fd3) : FnOk P w K mg base CX0 (k + 1) f fd ["self", "folds", "marks"] (spInitT A.C) := by
  refine F.ok sc_Table___init__ (fun vs H Q E h => ?_) (fun cdv A' outer s H vs Q E hr h => ?_)
  · obtain ⟨x, dx, df, dm, fs, ms, rfl, _⟩ := h
    rfl
  · obtain ⟨x, dx, df, dm, fs, ms, rfl, hx, hf, hm, ro, q⟩ := h
    refine ⟨_, (pss_cons (ps_expr (pe_call C__check_folds.ok hr (by rfl) C__check_folds.mg C__check_folds.kp C__check_folds.b .nil pass0 (pa_cons (pv 1) pa_nil)))
      (pss_cons (ps_expr (pe_call C__check_marks.ok hr (by rfl) C__check_marks.mg C__check_marks.kp C__check_marks.b .nil pass0 (pa_cons (pv 2) (pa_cons (pv 1) pa_nil))))
      (pss_cons (ps_expr (pe_call C__check_sizes.ok hr (by rfl) C__check_sizes.mg C__check_sizes.kp C__check_sizes.b .nil pass0 (pa_cons (pv 1) (pa_cons (pv 2) pa_nil))))
      (pss_cons (ps_fld (pv 0) (pe_callTy call_dictD (by rfl) T.b_dict (by decide +kernel) (pa_cons (pv 1) pa_nil)) rfl)
      (pss_one (ps_fld (pv 0) (pe_callTy call_dictD (by rfl) T.b_dict (by decide +kernel) (pa_cons (pv 2) pa_nil)) rfl)))))), ?_⟩
    refine ⟨_, rfl, df, fs, ms, rfl, hf, ro, fun H1 s1 => ?_⟩
    refine ⟨_, rfl, _, rfl, dm, df, fs, ms, rfl, s1 _ _ hf, s1 _ _ hm, ro, fun H2 s2 => ?_⟩
    have s12 := s1.trans s2
    refine ⟨_, rfl, _, rfl, dm, df, fs, ms, rfl, s12 _ _ hf, s12 _ _ hm, ro, ?_⟩
    refine ⟨_, rfl, df, _, rfl, .inl (s12 _ _ hf), fun p np => ?_⟩
    have hx2 := s12 _ _ hx
    have nxp : x ≠ p := ne_of_none hx2 np
    refine ⟨_, rfl, x, A.C, dx, [], rfl, (upd_ne nxp).trans hx2, TT.cl, TT.nF, (by show 0 < 1000; decide), ?_⟩
    have hm2 := s12 _ _ hm
    have nmx : dm ≠ x := ne_of hm2 hx2 (by intro z; cases z)
    have nmp : dm ≠ p := ne_of_none hm2 np
    refine ⟨_, rfl, dm, _, rfl, .inl (by rw [upd_ne nmx, upd_ne nmp]; exact hm2), fun p2 np2 => ?_⟩
    have nxp2 : x ≠ p2 := fun e => by rw [← e, upd_same] at np2; cases np2
    have npp2 : p ≠ p2 := fun e => by rw [← e, upd_ne nxp.symm, upd_same] at np2; cases np2
    have np20 : H2 p2 = none := by rw [upd_ne nxp2.symm, upd_ne npp2.symm] at np2; exact np2
    refine ⟨_, rfl, x, A.C, dx, _, rfl, (upd_ne nxp2).trans upd_same, TT.cl, TT.nM, (by show 1 < 1000; decide), ?_⟩
    refine q _ p p2 (s12.free np) (s12.free np20) npp2 upd_same (by rw [upd_ne nxp.symm, upd_ne npp2, upd_ne nxp.symm, upd_same]) (by rw [upd_ne nxp2.symm, upd_same]) fun b o hb e => ?_
    have e2 := s12 _ _ e
    rw [upd_ne hb, upd_ne (ne_of_none e2 np20), upd_ne hb, upd_ne (ne_of_none e2 np)]
    exact e2
end
end Nm


set_option Elab.async false
set_option linter.all false
set_option maxRecDepth 100000
set_option maxHeartbeats 4000000
namespace Nm
open PySem PySem.Spec PyProof.Rows L2 Evl
/-! ### a rule drawn -/
/-- the heap but b -/
def outH (b : Addr) (H : Hp) : Hp := fun x => if x = b then none else H x
theorem outH_b {b : Addr} {H : Hp} : outH b H b = none := if_pos rfl
theorem outH_ne {b x : Addr} {H : Hp} (h : x ≠ b) : outH b H x = H x := if_neg h
theorem outH_same {b : Addr} {H : Hp} : Same (outH b H) H := fun x u e => by
  by_cases h : x = b
  · rw [h, outH_b] at e
    cases e
  · rwa [outH_ne h] at e
theorem Dr.out {b : Addr} {n : Nat} {H : Hp} (h : BagAt H b n) : Dr (outH b H) b n H := ⟨outH_same, outH_b, h⟩
/-- all but b stays -/
def But1 (b : Addr) (H H' : Hp) : Prop := ∀ x u, x ≠ b → H x = some u → H' x = some u
theorem Dr.but {b : Addr} {n : Nat} {H H' : Hp} (d : Dr (outH b H) b n H') : But1 b H H' := fun x u ne e => d.same x u ((outH_ne ne).trans e)
abbrev FKS : Str := "A1B2_Z9"
abbrev FWS : Str := "aabc':^"
abbrev MKS : Str := "':^~"
def FK : List Nat := FKS.cps.toList
structure FsOk (fs : Fds) (n : Nat) : Prop where
  nd : (fs.map (·.1)).Nodup
  ky : ∀ p ∈ fs, p.1 ∈ FK.take n
  wd : ∀ p ∈ fs, 1 ≤ p.2.length ∧ p.2.length ≤ 3 ∧ ∀ c ∈ p.2, c ∈ FWS.cps.toList
structure MsOk (ms : Mks) (n : Nat) : Prop where
  nd : (ms.map (·.1)).Nodup
  ky : ∀ p ∈ ms, p.1 ∈ MKS.cps.toList.take n
  cl : ∀ p ∈ ms, p.2 = 1 ∨ p.2 = 2 ∨ p.2 = 3
theorem fk_facts : FK.all sgn = true ∧ FWS.cps.toList.all (fun c => sgn c && !decide (c ∈ FK)) = true ∧ MKS.cps.toList.all (fun c => sgn c && !decide (c ∈ FK)) = true ∧ FK.length = 7 ∧ MKS.cps.toList.length = 4 ∧ FWS.cps.toList.length = 7 ∧ FK.Nodup ∧ MKS.cps.toList.Nodup := by decide +kernel
theorem nd_len {α : Type} [BEq α] [LawfulBEq α] : ∀ {l m : List α}, l.Nodup → (∀ x ∈ l, x ∈ m) → l.length ≤ m.length
  | [], m, _, _ => Nat.zero_le _
  | a :: l, m, hn, h => by
    obtain ⟨h1, h2⟩ := List.nodup_cons.mp hn
    have ha := h a (List.mem_cons_self ..)
    have ih := nd_len (l := l) (m := m.erase a) h2 fun x hx => (List.mem_erase_of_ne (fun e => h1 (by rw [← e]; exact hx))).mpr (h x (List.mem_cons_of_mem _ hx))
    rw [List.length_erase_of_mem ha] at ih
    have : 0 < m.length := List.length_pos_of_mem ha
    rw [List.length_cons]
    omega
theorem rule_ok {fs : Fds} {ms : Mks} (h1 : FsOk fs 7) (h2 : MsOk ms 4) : RuleOk fs ms ∧ ∀ p ∈ fs, p.1 ∈ FK := by
  obtain ⟨f1, f2, f3, f4, f5, f6, f7, f8⟩ := fk_facts
  rw [List.all_eq_true] at f1 f2 f3
  have hk : ∀ p ∈ fs, p.1 ∈ FK := fun p hp => List.mem_of_mem_take (h1.ky p hp)
  have hn : ∀ c, c ∉ FK → lk fs c = none := fun c hc => lk_none.mpr fun p hp e => hc (by rw [← e]; exact hk p hp)
  have w2 : ∀ c ∈ FWS.cps.toList, sgn c = true ∧ c ∉ FK := fun c hc => by
    have := f2 c hc
    rw [Bool.and_eq_true] at this
    exact ⟨this.1, fun e => by rw [decide_eq_true e] at this; exact absurd this.2 (by decide)⟩
  have w3 : ∀ c ∈ MKS.cps.toList, sgn c = true ∧ c ∉ FK := fun c hc => by
    have := f3 c hc
    rw [Bool.and_eq_true] at this
    exact ⟨this.1, fun e => by rw [decide_eq_true e] at this; exact absurd this.2 (by decide)⟩
  have l1 : fs.length ≤ 7 := by
    have := nd_len (m := FK) h1.nd fun x hx => by
      obtain ⟨p, hp, rfl⟩ := List.mem_map.mp hx
      exact hk p hp
    rw [List.length_map, f4] at this
    exact this
  have l2 : ms.length ≤ 4 := by
    have := nd_len (m := MKS.cps.toList) h2.nd fun x hx => by
      obtain ⟨p, hp, rfl⟩ := List.mem_map.mp hx
      exact List.mem_of_mem_take (h2.ky p hp)
    rw [List.length_map, f5] at this
    exact this
  refine ⟨⟨h1.nd, fun p hp => f1 _ (hk p hp), fun p hp => ⟨⟨(h1.wd p hp).1, (h1.wd p hp).2.1, fun c hc => (w2 c ((h1.wd p hp).2.2 c hc)).1⟩, fun c hc => hn c (w2 c ((h1.wd p hp).2.2 c hc)).2⟩, by omega, h2.nd, fun p hp => ?_, h2.cl, by omega⟩, hk⟩
  have := w3 _ (List.mem_of_mem_take (h2.ky p hp))
  exact ⟨this.1, hn _ this.2⟩
theorem take_succ_mem {l : List Nat} {i c : Nat} (h : l[i]? = some c) : c ∈ l.take (i + 1) := by
  rw [List.take_add_one, h]
  exact List.mem_append_right _ (List.mem_singleton.mpr rfl)
theorem take_up {l : List Nat} {i c : Nat} (h : c ∈ l.take i) : c ∈ l.take (i + 1) := by
  rw [List.take_add_one]
  exact List.mem_append_left _ h
theorem not_take {l : List Nat} {i c : Nat} (hn : l.Nodup) (h : l[i]? = some c) : c ∉ l.take i := fun hm => by
  obtain ⟨h1, e1⟩ := List.getElem?_eq_some_iff.mp h
  obtain ⟨j, hj, e2⟩ := List.mem_take_iff_getElem.mp hm
  have := (List.getElem_inj hn).mp (e2.trans e1.symm)
  omega
theorem nd_snoc2 {l : List Nat} {c : Nat} (hn : l.Nodup) (h : c ∉ l) : (l ++ [c]).Nodup := nd_snoc hn h
theorem FsOk.snoc {fs : Fds} {i c : Nat} {l : List Nat} (h : FsOk fs i) (hc : FK[i]? = some c) (hl : 1 ≤ l.length ∧ l.length ≤ 3 ∧ ∀ d ∈ l, d ∈ FWS.cps.toList) : FsOk (fs ++ [(c, l)]) (i + 1) ∧ lk fs c = none := by
  have hn := not_take fk_facts.2.2.2.2.2.2.1 hc
  have hnk : c ∉ fs.map (·.1) := fun hm => by
    obtain ⟨p, hp, e⟩ := List.mem_map.mp hm
    exact hn (by rw [← e]; exact h.ky p hp)
  refine ⟨⟨by rw [List.map_append]; exact nd_snoc h.nd hnk, fun p hp => ?_, fun p hp => ?_⟩, lk_none.mpr fun p hp e => hnk (List.mem_map.mpr ⟨p, hp, e⟩)⟩
  · rcases List.mem_append.mp hp with q | q
    · exact take_up (h.ky p q)
    · rw [List.mem_singleton.mp q]
      exact take_succ_mem hc
  · rcases List.mem_append.mp hp with q | q
    · exact h.wd p q
    · rw [List.mem_singleton.mp q]
      exact hl
theorem FsOk.skip {fs : Fds} {i : Nat} (h : FsOk fs i) : FsOk fs (i + 1) := ⟨h.nd, fun p hp => take_up (h.ky p hp), h.wd⟩
theorem MsOk.snoc {ms : Mks} {i c : Nat} {x : Int} (h : MsOk ms i) (hc : MKS.cps.toList[i]? = some c) (hx : x = 1 ∨ x = 2 ∨ x = 3) : MsOk (ms ++ [(c, x)]) (i + 1) ∧ lk ms c = none := by
  have hn := not_take fk_facts.2.2.2.2.2.2.2 hc
  have hnk : c ∉ ms.map (·.1) := fun hm => by
    obtain ⟨p, hp, e⟩ := List.mem_map.mp hm
    exact hn (by rw [← e]; exact h.ky p hp)
  refine ⟨⟨by rw [List.map_append]; exact nd_snoc h.nd hnk, fun p hp => ?_, fun p hp => ?_⟩, lk_none.mpr fun p hp e => hnk (List.mem_map.mpr ⟨p, hp, e⟩)⟩
  · rcases List.mem_append.mp hp with q | q
    · exact take_up (h.ky p q)
    · rw [List.mem_singleton.mp q]
      exact take_succ_mem hc
  · rcases List.mem_append.mp hp with q | q
    · exact h.cl p q
    · rw [List.mem_singleton.mp q]
      exact hx
theorem MsOk.skip {ms : Mks} {i : Nat} (h : MsOk ms i) : MsOk ms (i + 1) := ⟨h.nd, fun p hp => take_up (h.ky p hp), h.cl⟩
theorem kF_snoc (fs : Fds) {c : Nat} {l : List Nat} (h : lk fs c = none) : putK (kF fs) (Sum.inr (sgS c)) (.str (stL l)) = kF (fs ++ [(c, l)]) := by
  rw [putK_new _ (by rw [valV_kF, h]; rfl)]
  simp [kF]
theorem kM_snoc (ms : Mks) {c : Nat} {x : Int} (h : lk ms c = none) : putK (kM ms) (Sum.inr (sgS c)) (.int x) = kM (ms ++ [(c, x)]) := by
  rw [putK_new _ (by rw [valV_kM, h]; rfl)]
  simp [kM]
def spRule : Sp := fun vs H Q _ => ∃ (b : Addr) (n : Nat), vs = [.ref b] ∧ BagAt H b n ∧ n ≤ 100000000 ∧
  ∀ t pf pm fs ms H', RuleOk fs ms → (∀ p ∈ fs, p.1 ∈ FK) → t ≠ b → pf ≠ b → pm ≠ b → H' t = some (.tup [.ref pf, .ref pm]) → H' pf = some (.dK (kF fs)) → H' pm = some (.dK (kM ms)) → BagAt H' b (n + 200) → But1 b H H' → Q (.ref t) H'
abbrev s__law_rule : Stmt := top 33
abbrev sc__law_rule_N : List Str := ["_law_bag_here", "_law_folds", "_law_marks", "_law_sign", "_law_k"]
theorem sc__law_rule : FnScope sc__law_rule_N ["_law_bag_here"] (defScope s__law_rule) := ⟨rfl, rfl, rfl, by decide +kernel, rfl, by decide +kernel, by decide +kernel⟩
section
variable {P : Program} {w : World} {K : Fg} {mg : Str → Option Value} {base : Heap}
theorem ok__law_rule {f f1 : Addr} {fd fd1 : FuncData} {k : Nat} (F : Fun K "_law_rule" "_law_rule" s__law_rule f fd) (T : Txt K mg) (C__law_take : Cal P w K mg base CX0 k "_law_take" ["_law_bag_here", "_law_many"] spTake f1 fd1) :
    FnOk P w K mg base CX0 (k + 1) f fd ["_law_bag_here"] spRule := by
  refine F.ok sc__law_rule (fun vs H Q E h => ?_) (fun cdv A outer s H vs Q E hr h => ?_)
  · obtain ⟨b, n, rfl, _⟩ := h
    rfl
  · obtain ⟨b, n, rfl, hB, hn, q⟩ := h
    have hu := hu_of hr
    refine ⟨_, (pss_cons (ps_par (i := 1) (j := 2) (by rfl) sc__law_rule.nd rfl rfl (by decide) rfl rfl (pa_cons pe_dnewK (pa_cons pe_dnewK pa_nil)) (by rfl))
      (pss_cons (ps_for PassesOwn.never rfl (pi_str pe_str) (pg_name (i := 3) sc__law_rule.nd rfl (Or.inl rfl)) (pss_one (ps_if (pt_cmpR op_eq (pe_call C__law_take.ok hr (by rfl) C__law_take.mg C__law_take.kp C__law_take.b .nil pass0 (pa_cons (pv 0) (pa_cons pe_int pa_nil))) pe_int (nomark _)) (pss_one (ps_dput hu (pv 1) (pv 3) (pe_join pe_str (pe_lc (own := [("_law_k", 4)]) (g := gName 4) (tt := tYes) rfl sc__law_rule.nd (pi_range1 (by rfl) T.b_range (pa_cons (pe_ix ix_list (pe_lstS (pa_cons pe_int (pa_cons pe_int (pa_cons pe_int (pa_cons pe_int (pa_cons pe_int pa_nil)))))) (pe_call C__law_take.ok hr (by rfl) C__law_take.mg C__law_take.kp C__law_take.b .nil pass0 (pa_cons (pv 0) (pa_cons pe_int pa_nil))) (fun _ _ => rfl)) pa_nil)) (blkOk_by (own := [("_law_k", 4)]) (N := sc__law_rule_N) (sc := defScope s__law_rule) (by decide +kernel)) (fun _ _ _ _ _ => (pg_name (i := 4) sc__law_rule.nd rfl (Or.inl rfl))) (fun _ _ _ _ _ => pts_nil) (fun _ _ _ _ _ => (pe_ix ix_str pe_str (pe_call C__law_take.ok hr (by rfl) C__law_take.mg C__law_take.kp C__law_take.b .nil pass0 (pa_cons (pv 0) (pa_cons pe_int pa_nil))) (fun _ _ => rfl))))) rfl)) pss_nil)))
      (pss_cons (ps_for PassesOwn.never rfl (pi_str pe_str) (pg_name (i := 3) sc__law_rule.nd rfl (Or.inl rfl)) (pss_one (ps_if (pt_cmpR op_gt (pe_call C__law_take.ok hr (by rfl) C__law_take.mg C__law_take.kp C__law_take.b .nil pass0 (pa_cons (pv 0) (pa_cons pe_int pa_nil))) pe_int (nomark _)) (pss_one (ps_dput hu (pv 2) (pv 3) (pe_op op_add pe_int (pe_call C__law_take.ok hr (by rfl) C__law_take.mg C__law_take.kp C__law_take.b .nil pass0 (pa_cons (pv 0) (pa_cons pe_int pa_nil)))) rfl)) pss_nil)))
      (pss_one (ps_ret (pe_tup (pa_cons (pv 1) (pa_cons (pv 2) pa_nil)))))))), ?_⟩
    have n12 : ∀ {p1 p2 : Addr} {o : HO}, (upd H p1 o) p2 = none → p2 ≠ p1 := fun h e => by rw [e, upd_same] at h; cases h
    refine fun p1 np1 => fun p2 np2 => ⟨_, _, rfl, ?_⟩
    have ne21 := n12 np2
    have np20 : H p2 = none := by rw [upd_ne ne21] at np2; exact np2
    have d0 := Dr.out hB
    have nb1 : p1 ≠ b := d0.ne np1
    have nb2 : p2 ≠ b := d0.ne np20
    have d1 := (d0.mut (p := p1) (o := .dK []) (by rw [outH_ne nb1]; exact np1) nb1).mut (p := p2) (o := .dK []) (by rw [outH_ne nb2]; exact np20) nb2
    have mo1 : outH b H p1 = none := by rw [outH_ne nb1]; exact np1
    have mo2 : outH b H p2 = none := by rw [outH_ne nb2]; exact np20
    -- the folds
    refine ⟨_, rfl, for_it walk_str (fun i σ' H' => ∃ (fs : Fds) (y3 y4 : Option V), σ' = [some (.ref b), some (.ref p1), some (.ref p2), y3, y4] ∧ Dr (outH b H) b (n + 10 * i) H' ∧ H' p1 = some (.dK (kF fs)) ∧ H' p2 = some (.dK []) ∧ FsOk fs i)
      ⟨[], none, none, rfl, d1, (upd_ne ne21.symm).trans upd_same, upd_same, ⟨List.nodup_nil, fun p h => absurd h List.not_mem_nil, fun p h => absurd h List.not_mem_nil⟩⟩ (fun _ _ _ _ _ => trivial) ?_ ?_⟩
    · rintro i x σ' H1 H1' hi ⟨fs, y3, y4, rfl, d, h1, h2, ok⟩ ⟨rfl, c, hc, rfl⟩
      have hi7 : i < 7 := by
        have e : (FKS : Str).cps.size = 7 := by decide +kernel
        rw [← e]
        exact hi
      have hc' : FK[i]? = some c := by unfold FK; rw [Array.getElem?_toList]; exact hc
      refine ⟨_, rfl, b, 2, _, rfl, d.bag, by omega, by decide, by decide, fun r H2 hr0 hr1 hb2 ht2 => ⟨rfl, _, rfl, ite2 (fun _ => ?_) (fun _ => ?_)⟩⟩
      · have d2 := d.take hb2 ht2
        have h12 : H2 p1 = some (.dK (kF fs)) := (ht2 _ nb1).trans h1
        have h22 : H2 p2 = some (.dK []) := (ht2 _ nb2).trans h2
        refine ⟨⟨_, rfl⟩, (by show 5 ≤ sizeLine; decide), fun t nt net => ?_⟩
        have nbt : t ≠ b := d2.ne nt
        have mot : outH b H t = none := d2.free nt
        have d3 := d2.mut (p := t) (o := .lst [.int 1, .int 1, .int 2, .int 2, .int 3]) mot nbt
        refine ⟨_, rfl, b, 5, _, rfl, d3.bag, by omega, by decide, by decide, fun r3 H3 h30 h31 hb3 ht3 => ?_⟩
        have d4 := d3.take hb3 ht3
        have htt : H3 t = some (.lst [.int 1, .int 1, .int 2, .int 2, .int 3]) := (ht3 _ nbt).trans upd_same
        have k1 : ∀ {p : Addr} {o : HO}, p ≠ b → H2 p = some o → H3 p = some o := fun hp e => (ht3 _ hp).trans ((upd_ne (ne_of_none e nt)).trans e)
        obtain ⟨v, hv, hvm⟩ := atI_some (xs := ([.int 1, .int 1, .int 2, .int 2, .int 3] : List V)) h30 h31
        obtain ⟨m, rfl, hm1, hm3⟩ : ∃ m : Nat, v = .int (m : Int) ∧ 1 ≤ m ∧ m ≤ 3 := by
          have all : ∀ v ∈ ([.int 1, .int 1, .int 2, .int 2, .int 3] : List V), ∃ m : Nat, v = .int (m : Int) ∧ 1 ≤ m ∧ m ≤ 3 :=
            List.forall_mem_cons.mpr ⟨⟨1, rfl, by decide, by decide⟩, List.forall_mem_cons.mpr ⟨⟨1, rfl, by decide, by decide⟩, List.forall_mem_cons.mpr ⟨⟨2, rfl, by decide, by decide⟩, List.forall_mem_cons.mpr ⟨⟨2, rfl, by decide, by decide⟩, List.forall_mem_cons.mpr ⟨⟨3, rfl, by decide, by decide⟩, fun _ h => nomatch h⟩⟩⟩⟩⟩
          exact all v hvm
        refine ⟨t, _, r3, _, rfl, rfl, SqL.of htt, hv, (m : Int), rfl, by omega, by omega, fun D nD => ?_⟩
        have nbD : D ≠ b := d4.ne nD
        have moD : outH b H D = none := d4.free nD
        have nD1 : D ≠ p1 := (ne_of_none (k1 nb1 h12) nD).symm
        have nD2 : D ≠ p2 := (ne_of_none (k1 nb2 h22) nD).symm
        refine lc_rng (n := m) (fun j xs G => Dr (outH b H) b (n + 10 * i + 2 + j) G ∧ G p1 = some (.dK (kF fs)) ∧ G p2 = some (.dK []) ∧ ∃ l : List Nat, xs = sgs l ∧ ∀ c ∈ l, c ∈ FWS.cps.toList) (by omega)
          ⟨(d4.mut moD nbD).up (by omega), (upd_ne nD1.symm).trans (k1 nb1 h12), (upd_ne nD2.symm).trans (k1 nb2 h22), [], rfl, fun _ h => absurd h List.not_mem_nil⟩ ?_ ?_
        · rintro j xs G R hj ⟨dG, g1, g2, l, rfl, hl⟩ hlen hGD k
          refine ⟨_, rfl, b, 7, _, rfl, dG.bag, by omega, by decide, by decide, fun r4 G4 h40 h41 hb4 ht4 => ?_⟩
          obtain ⟨c', hc4, hcm⟩ := atI_some (xs := FWS.cps.toList) h40 (by rw [fk_facts.2.2.2.2.2.1]; exact h41)
          have dG4 := dG.take hb4 ht4
          refine ⟨FWS, r4, c', rfl, rfl, (by decide +kernel), hc4, k _ _ ((ht4 D nbD).trans hGD) ⟨(dG4.mut moD nbD).up (by omega), (upd_ne nD1.symm).trans ((ht4 _ nb1).trans g1), (upd_ne nD2.symm).trans ((ht4 _ nb2).trans g2), l ++ [c'], by simp [sgs]; rfl, fun x hx => ?_⟩⟩
          rcases List.mem_append.mp hx with h | h
          · exact hl x h
          · rw [List.mem_singleton.mp h]
            exact hcm
        · rintro xs G hlen hGD ⟨dG, g1, g2, l, rfl, hl⟩
          rw [sgs_len] at hlen
          obtain ⟨ok', hno⟩ := ok.snoc hc' (l := l) ⟨by omega, by omega, hl⟩
          refine ⟨_, D, l.map sgS, rfl, rfl, .inl (SqL.of (by rw [hGD, sgs_strs])), by rw [sum_sgs, emp_str, show (⟨#[]⟩ : Str).length = 0 from rfl]; omega, ?_⟩
          rw [emp_str, join_sgs]
          refine ⟨_, rfl, _, rfl, p1, _, rfl, DPut.k (k := Sum.inr (sgS c)) g1 (by rw [kF_len]; have := nd_len (m := FK) ok.nd (fun x hx => by obtain ⟨p, hp, rfl⟩ := List.mem_map.mp hx; exact List.mem_of_mem_take (ok.ky p hp)); rw [List.length_map, fk_facts.2.2.2.1] at this; rw [sizeLine_eq]; omega), ?_⟩
          rw [kF_snoc fs hno]
          exact ⟨fs ++ [(c, l)], _, _, rfl, (dG.mut mo1 nb1).up (by omega), upd_same, (upd_ne ne21).trans g2, ok'⟩
      · exact ⟨fs, _, _, rfl, (d.take hb2 ht2).up (by omega), (ht2 _ nb1).trans h1, (ht2 _ nb2).trans h2, ok.skip⟩
    · rintro σ' H1 ⟨fs, y3, y4, rfl, d, h1, h2, ok⟩
      have ok7 : FsOk fs 7 := by
        have e : (FKS : Str).cps.size = 7 := by decide +kernel
        rw [← e]
        exact ok
      have d7 : Dr (outH b H) b (n + 70) H1 := by
        have e : (FKS : Str).cps.size = 7 := by decide +kernel
        rw [e] at d
        exact d
      -- the marks
      refine ⟨_, rfl, for_it walk_str (fun i σ' H' => ∃ (ms : Mks) (y3 : Option V), σ' = [some (.ref b), some (.ref p1), some (.ref p2), y3, y4] ∧ Dr (outH b H) b (n + 70 + 10 * i) H' ∧ H' p1 = some (.dK (kF fs)) ∧ H' p2 = some (.dK (kM ms)) ∧ MsOk ms i)
        ⟨[], _, rfl, d7, h1, h2, ⟨List.nodup_nil, fun p h => absurd h List.not_mem_nil, fun p h => absurd h List.not_mem_nil⟩⟩ (fun _ _ _ _ _ => trivial) ?_ ?_⟩
      · rintro i x σ' H2 H2' hi ⟨ms, y3, rfl, d2, g1, g2, okm⟩ ⟨rfl, c, hc, rfl⟩
        have hi4 : i < 4 := by
          have e : (MKS : Str).cps.size = 4 := by decide +kernel
          rw [← e]
          exact hi
        have hc' : MKS.cps.toList[i]? = some c := by rw [Array.getElem?_toList]; exact hc
        refine ⟨_, rfl, b, 3, _, rfl, d2.bag, by omega, by decide, by decide, fun r H3 hr0 hr1 hb3 ht3 => ⟨_, _, rfl, rfl, _, rfl, ite2 (fun _ => ?_) (fun _ => ?_)⟩⟩
        · have d3 := d2.take hb3 ht3
          refine ⟨_, rfl, b, 3, _, rfl, d3.bag, by omega, by decide, by decide, fun r4 H4 h40 h41 hb4 ht4 => ?_⟩
          have d4 := d3.take hb4 ht4
          have f1 : H4 p1 = some (.dK (kF fs)) := (ht4 _ nb1).trans ((ht3 _ nb1).trans g1)
          have f2 : H4 p2 = some (.dK (kM ms)) := (ht4 _ nb2).trans ((ht3 _ nb2).trans g2)
          obtain ⟨okm', hno⟩ := okm.snoc hc' (x := 1 + r4) (by omega)
          refine ⟨_, _, rfl, rfl, _, rfl, _, rfl, p2, _, rfl, DPut.k (k := Sum.inr (sgS c)) f2 (by rw [kM_len]; have := nd_len (m := MKS.cps.toList) okm.nd (fun x hx => by obtain ⟨p, hp, rfl⟩ := List.mem_map.mp hx; exact List.mem_of_mem_take (okm.ky p hp)); rw [List.length_map, fk_facts.2.2.2.2.1] at this; rw [sizeLine_eq]; omega), ?_⟩
          rw [kM_snoc ms hno]
          exact ⟨ms ++ [(c, 1 + r4)], _, rfl, (d4.mut mo2 nb2).up (by omega), (upd_ne ne21.symm).trans f1, upd_same, okm'⟩
        · exact ⟨ms, _, rfl, (d2.take hb3 ht3).up (by omega), (ht3 _ nb1).trans g1, (ht3 _ nb2).trans g2, okm.skip⟩
      · rintro σ' H2 ⟨ms, y3, rfl, d2, g1, g2, okm⟩
        have okm4 : MsOk ms 4 := by
          have e : (MKS : Str).cps.size = 4 := by decide +kernel
          rw [← e]
          exact okm
        have e4 : (MKS : Str).cps.size = 4 := by decide +kernel
        rw [e4] at d2
        obtain ⟨ro, hk⟩ := rule_ok ok7 okm4
        refine ⟨_, rfl, _, rfl, (by show 2 ≤ sizeLine; decide), fun t nt => ?_⟩
        have nbt : t ≠ b := d2.ne nt
        have d3 := d2.mut (p := t) (o := .tup [.ref p1, .ref p2]) (d2.free nt) nbt
        exact q t p1 p2 fs ms _ ro hk nbt nb1 nb2 upd_same ((upd_ne (ne_of_none g1 nt)).trans g1) ((upd_ne (ne_of_none g2 nt)).trans g2) (d3.bag.up (by omega)) d3.but
end
/-! ### a word drawn, a key by neighbours -/
abbrev WSG : Str := "aabc'':^~A1B2_Z9z-"
theorem wsg_facts : WSG.cps.toList.all sgn = true ∧ WSG.cps.toList.length = 18 := by decide +kernel
def spWord : Sp := fun vs H Q _ => ∃ (b : Addr) (m n : Nat), vs = [.ref b, .int (m : Int)] ∧ BagAt H b n ∧ n ≤ 100000000 ∧ 1 ≤ m ∧ m ≤ 1000 ∧
  ∀ l H', Wd l m → BagAt H' b (n + 1 + m) → But1 b H H' → Q (.str (stL l)) H'
abbrev s__law_word : Stmt := top 34
abbrev sc__law_word_N : List Str := ["_law_bag_here", "_law_most", "_law_signs", "_law_k"]
theorem sc__law_word : FnScope sc__law_word_N ["_law_bag_here", "_law_most"] (defScope s__law_word) := ⟨rfl, rfl, rfl, by decide +kernel, rfl, by decide +kernel, by decide +kernel⟩
abbrev s__law_key : Stmt := top 35
abbrev sc__law_key_N : List Str := ["_law_rule_here", "_law_word_here", "_law_folds", "_law_marks", "_law_signs", "_law_is_ready", "_law_sign", "_law_at", "_law_one", "_law_other"]
theorem sc__law_key : FnScope sc__law_key_N ["_law_rule_here", "_law_word_here"] (defScope s__law_key) := ⟨rfl, rfl, rfl, by decide +kernel, rfl, by decide +kernel, by decide +kernel⟩
section
variable {P : Program} {w : World} {K : Fg} {mg : Str → Option Value} {base : Heap}
theorem ok__law_word {f f1 : Addr} {fd fd1 : FuncData} {k : Nat} (F : Fun K "_law_word" "_law_word" s__law_word f fd) (T : Txt K mg) (C__law_take : Cal P w K mg base CX0 k "_law_take" ["_law_bag_here", "_law_many"] spTake f1 fd1) :
    FnOk P w K mg base CX0 (k + 1) f fd ["_law_bag_here", "_law_most"] spWord := by
  refine F.ok sc__law_word (fun vs H Q E h => ?_) (fun cdv A outer s H vs Q E hr h => ?_)
  · obtain ⟨b, m, n, rfl, _⟩ := h
    rfl
  · obtain ⟨b, m, n, rfl, hB, hn, hm1, hm2, q⟩ := h
    refine ⟨_, (pss_cons (ps_set (i := 2) sc__law_word.nd rfl (Or.inr rfl) pe_str)
      (pss_one (ps_ret (pe_join pe_str (pe_lc (own := [("_law_k", 3)]) (g := gName 3) (tt := tYes) rfl sc__law_word.nd (pi_range1 (by rfl) T.b_range (pa_cons (pe_op op_add pe_int (pe_call C__law_take.ok hr (by rfl) C__law_take.mg C__law_take.kp C__law_take.b .nil pass0 (pa_cons (pv 0) (pa_cons (pv 1) pa_nil)))) pa_nil)) (blkOk_by (own := [("_law_k", 3)]) (N := sc__law_word_N) (sc := defScope s__law_word) (by decide +kernel)) (fun _ _ _ _ _ => (pg_name (i := 3) sc__law_word.nd rfl (Or.inl rfl))) (fun _ _ _ _ _ => pts_nil) (fun _ _ _ _ _ => (pe_ix ix_str (pv 2) (pe_call C__law_take.ok hr (by rfl) C__law_take.mg C__law_take.kp C__law_take.b .nil pass0 (pa_cons (pv 0) (pa_cons pe_int pa_nil))) (fun _ _ => rfl)))))))), ?_⟩
    have d0 := Dr.out hB
    refine ⟨⟨_, rfl⟩, _, rfl, _, rfl, b, (m : Int), n, rfl, hB, by omega, by omega, by omega, fun r H1 hr0 hr1 hb1 ht1 => ?_⟩
    have d1 := d0.take hb1 ht1
    refine ⟨_, _, rfl, rfl, (1 + r : Int), rfl, by omega, by omega, fun D nD => ?_⟩
    have nbD : D ≠ b := d1.ne nD
    have moD : outH b H D = none := d1.free nD
    have e1 : (1 + r : Int).toNat = r.toNat + 1 := by omega
    rw [e1]
    refine lc_rng (n := r.toNat + 1) (fun j xs G => Dr (outH b H) b (n + 1 + j) G ∧ ∃ l : List Nat, xs = sgs l ∧ ∀ c ∈ l, sgn c = true) (by omega) ⟨d1.mut moD nbD, [], rfl, fun _ h => absurd h List.not_mem_nil⟩ ?_ ?_
    · rintro j xs G R hj ⟨dG, l, rfl, hl⟩ hlen hGD k
      refine ⟨_, rfl, _, rfl, b, 18, _, rfl, dG.bag, by omega, by decide, by decide, fun r4 G4 h40 h41 hb4 ht4 => ?_⟩
      obtain ⟨c', hc4, hcm⟩ := atI_some (xs := WSG.cps.toList) h40 (by rw [wsg_facts.2]; exact h41)
      have dG4 := dG.take hb4 ht4
      refine ⟨WSG, r4, c', rfl, rfl, (by decide +kernel), hc4, k _ _ ((ht4 D nbD).trans hGD) ⟨dG4.mut moD nbD, l ++ [c'], by simp [sgs]; rfl, fun x hx => ?_⟩⟩
      rcases List.mem_append.mp hx with h | h
      · exact hl x h
      · rw [List.mem_singleton.mp h]
        exact List.all_eq_true.mp wsg_facts.1 _ hcm
    · rintro xs G hlen hGD ⟨dG, l, rfl, hl⟩
      rw [sgs_len] at hlen
      refine ⟨_, D, l.map sgS, rfl, rfl, .inl (SqL.of (by rw [hGD, sgs_strs])), by rw [sum_sgs, emp_str, show (⟨#[]⟩ : Str).length = 0 from rfl]; omega, ?_⟩
      rw [emp_str, join_sgs]
      exact q l G ⟨by omega, by omega, hl⟩ (dG.bag.up (by omega)) dG.but
/-- the law's own key -/
def spKey : Sp := fun vs H Q _ => ∃ t pf pm z fs ms, vs = [.ref t, .str z] ∧ H t = some (.tup [.ref pf, .ref pm]) ∧ H pf = some (.dK (kF fs)) ∧ H pm = some (.dK (kM ms)) ∧ RuleOk fs ms ∧ Wd z.cps.toList 100 ∧
  RetV (.str (stL (keyL fs ms z.cps.toList))) H Q
theorem sgs_set (l : List Nat) (i c : Nat) : (sgs l).set i (.str (sgS c)) = sgs (l.set i c) := by simp [sgs, List.map_set]
theorem sgs_get {l : List Nat} {i c : Nat} (h : l[i]? = some c) : (sgs l)[i]? = some (.str (sgS c)) := by simp [sgs, h]
theorem ev_fall {σ : L2.St} {H : Hp} {dm : Addr} {ms : Mks} {a b : Nat} {i3 i8 i9 : Nat} (h3 : σ[i3]? = some (some (.ref dm))) (h8 : σ[i8]? = some (some (.str (sgS a)))) (h9 : σ[i9]? = some (some (.str (sgS b)))) (hd : H dm = some (.dK (kM ms))) :
    EvT (tAnd (tB (tDIn (tVar i8) (tVar i3))) (tAnd (tB (tDIn (tVar i9) (tVar i3))) (tTest (tOp (rI0 fun i j => .bl (decide (j < i))) (tDGet (tVar i3) (tVar i8)) (tDGet (tVar i3) (tVar i9)))))) σ H (fall ms a b) := by
  have d8 : EvT (tB (tDIn (tVar i8) (tVar i3))) σ H (isM ms a) := et_is (et_B (ev_din (k := Sum.inr (sgS a)) (ev_var h3) (ev_var h8) hd)) (by rw [valV_kM]; unfold isM; cases lk ms a <;> rfl)
  have d9 : EvT (tB (tDIn (tVar i9) (tVar i3))) σ H (isM ms b) := et_is (et_B (ev_din (k := Sum.inr (sgS b)) (ev_var h3) (ev_var h9) hd)) (by rw [valV_kM]; unfold isM; cases lk ms b <;> rfl)
  cases ea : lk ms a with
  | none =>
    have e1 : isM ms a = false := by unfold isM; rw [ea]; rfl
    have e2 : fall ms a b = false := by unfold fall; rw [ea]
    rw [e1] at d8
    rw [e2]
    exact et_and (b := false) d8 fun z => nomatch z
  | some x =>
    have e1 : isM ms a = true := by unfold isM; rw [ea]; rfl
    rw [e1] at d8
    cases eb : lk ms b with
    | none =>
      have e3 : isM ms b = false := by unfold isM; rw [eb]; rfl
      have e2 : fall ms a b = false := by unfold fall; rw [ea, eb]
      rw [e3] at d9
      rw [e2]
      exact et_and (b := false) d8 fun _ => et_and (b := false) d9 fun z => nomatch z
    | some y =>
      have e3 : isM ms b = true := by unfold isM; rw [eb]; rfl
      have e2 : fall ms a b = decide (y < x) := by unfold fall; rw [ea, eb]
      rw [e3] at d9
      rw [e2]
      refine et_is (et_and d8 fun _ => et_and d9 fun _ => et_test (ev_op (ev_dget (k := Sum.inr (sgS a)) (v := .int x) (ev_var h3) (ev_var h8) hd (by rw [valV_kM, ea]; rfl)) (ev_dget (k := Sum.inr (sgS b)) (v := .int y) (ev_var h3) (ev_var h9) hd (by rw [valV_kM, eb]; rfl)) rv_I0)) ?_
      rfl
theorem ixN_nat {n i : Nat} (h : i < n) : ixN n (i : Int) = some i := by
  unfold ixN
  rw [if_pos (by omega)]
  simp
  exact h
theorem em_listT {te : TE} {σ : L2.St} {H : Hp} {z : Str} (h : Ev te σ H (.str z)) (hz : z.length ≤ 100000) : EvM (tCB rListT (tCons te tNil)) σ H (sgs z.cps.toList) := fun H1 e Q q =>
  h H1 e _ fun H2 e2 => ⟨z, rfl, hz, fun p np ne => q p _ (fresh_back e2 np) ne (e2.trans (Ex.new np)) upd_same⟩
theorem q_par1 {i j : Nat} {xs : List V} {v : V} {ta tb : TE} {tz : TS} {D : Ends} {σ : L2.St} {H : Hp} (h1 : EvM ta σ H xs) (h2 : ∀ H1, Ex H H1 → Ev tb σ H1 v) (k : ∀ p H1, H p = none → Ex H H1 → H1 p = some (.lst xs) → tz D ((σ.set i (some (.ref p))).set j (some v)) H1) :
    tSeq (tPar i j (tCons ta (tCons tb tNil))) tz D σ H := h1 H (Ex.refl H) _ fun p H1 np _ e hp => h2 H1 e H1 (Ex.refl H1) _ fun H2 e2 => ⟨_, _, rfl, k p H2 np (e.trans e2) (e2 _ _ hp)⟩
theorem q_par2 {i j : Nat} {v y : V} {ta : TA} {tz : TS} {D : Ends} {σ : L2.St} {H : Hp} (h : EvA ta σ H [v, y]) (k : ∀ H1, Ex H H1 → tz D ((σ.set i (some v)).set j (some y)) H1) :
    tSeq (tPar i j ta) tz D σ H := h H (Ex.refl H) _ fun H1 e => ⟨_, _, rfl, k H1 e⟩
theorem ok__law_key {f : Addr} {fd : FuncData} {k : Nat} (F : Fun K "_law_key" "_law_key" s__law_key f fd) (T : Txt K mg) : FnOk P w K mg base CX0 (k + 1) f fd ["_law_rule_here", "_law_word_here"] spKey := by
  refine F.ok sc__law_key (fun vs H Q E h => ?_) (fun cdv A outer s H vs Q E hr h => ?_)
  · obtain ⟨t, pf, pm, z, fs, ms, rfl, _⟩ := h
    rfl
  · obtain ⟨t, pf, pm, z, fs, ms, rfl, ht, hf, hm, ro, wd, q⟩ := h
    have hu := hu_of hr
    refine ⟨_, (pss_cons (ps_asg (pv 0) (pg_tup (by rfl) (pgs_cons (pg_name (i := 2) sc__law_key.nd rfl (Or.inr rfl)) (pgs_cons (pg_name (i := 3) sc__law_key.nd rfl (Or.inl rfl)) pgs_nil))))
      (pss_cons (ps_par (i := 4) (j := 5) (by rfl) sc__law_key.nd rfl rfl (by decide) rfl rfl (pa_cons (pe_callTy (call_listT rfl) (by rfl) T.b_list (by decide +kernel) (pa_cons (pe_join pe_str (pe_lc (own := [("_law_sign", 6)]) (g := gName 6) (tt := tYes) rfl sc__law_key.nd (pi_str (pv 1)) (blkOk_by (own := [("_law_sign", 6)]) (N := sc__law_key_N) (sc := defScope s__law_key) (by decide +kernel)) (fun _ _ _ _ _ => (pg_name (i := 6) sc__law_key.nd rfl (Or.inl rfl))) (fun _ _ _ _ _ => pts_nil) (fun _ _ _ _ _ => (pe_dget2 hu (pv 2) (pv 6) (pv 6) ⟨rfl, rfl, rfl, rfl⟩)))) pa_nil)) (pa_cons pe_bl pa_nil)) (by rfl))
      (pss_cons (ps_while PassesOwn.never (pt_not (pt_val (pv 5))) (pss_cons (ps_set (i := 5) sc__law_key.nd rfl (Or.inl rfl) pe_bl)
      (pss_one (ps_for PassesOwn.never rfl (pi_range1 (by rfl) T.b_range (pa_cons (pe_op op_sub (pe_callB call_len_seq (by rfl) T.b_len PySem.boot_len (pa_cons (pv 4) pa_nil)) pe_int) pa_nil)) (pg_name (i := 7) sc__law_key.nd rfl (Or.inl rfl)) (pss_cons (ps_par (i := 8) (j := 9) (by rfl) sc__law_key.nd rfl rfl (by decide) rfl rfl (pa_cons (pe_ix ix_list (pv 4) (pv 7) (fun _ _ => rfl)) (pa_cons (pe_ix ix_list (pv 4) (pe_op op_add (pv 7) pe_int) (fun _ _ => rfl)) pa_nil)) (by rfl))
      (pss_one (ps_if (PW.pt (pw_and (pt_cmp (pc_din hu (pv 8) (pv 3))) (pw_and (pt_cmp (pc_din hu (pv 9) (pv 3))) (pw_and1 (pt_cmpR op_gt (pe_dget hu (pv 3) (pv 8) (fun _ _ => rfl)) (pe_dget hu (pv 3) (pv 9) (fun _ _ => rfl)) (nomark _)))))) (pss_cons (ps_asg (pe_tup (pa_cons (pv 9) (pa_cons (pv 8) pa_nil))) (pg_tup (by rfl) (pgs_cons (pg_sub (pv 4) (pv 7) set_list) (pgs_cons (pg_sub (pv 4) (pe_op op_add (pv 7) pe_int) set_list) pgs_nil))))
      (pss_one (ps_set (i := 5) sc__law_key.nd rfl (Or.inl rfl) pe_bl))) pss_nil)))))))
      (pss_one (ps_ret (pe_join pe_str (pv 4))))))), ?_⟩
    have hl0 : (foldL fs z.cps.toList).length ≤ 3 * z.cps.toList.length := foldL_len fun c hc => (foldC_ok ro (wd.sg c hc)).1.le
    have hl1 := foldL_ge ro wd.sg
    have wle := wd.le
    have wge := wd.ge
    refine ⟨_, rfl, t, _, rfl, st_of ht, rfl, _, _, rfl, _, _, rfl, rfl, ?_⟩
    -- signs, ready
    have lc := el_lcS (t := tYes) (σ := [some (.ref t), some (.str z), some (.ref pf), some (.ref pm), none, none, none, none, none, none]) (H := H) (j := 6) (vs := [6]) (te := tVar 1) (ta := tDGet2 (tVar 2) (tVar 6) (tVar 6)) (fun _ => true) (fun c => .str (stL (foldC fs c))) (ev_var rfl) (by rw [len_str]; omega) (fun _ => rfl) (fun _ _ _ _ => et_yes) fun c H2 e3 m _ =>
      ev_is (ev_dget2 (k := Sum.inr (sgS c)) (ev_var rfl) (ev_var rfl) (ev_var rfl) (e3 _ _ hf)) (by rw [valV_kF]; unfold foldC; cases lk fs c <;> rfl)
    rw [List.filter_eq_self.mpr fun _ _ => rfl] at lc
    have lj := ev_joinS (K := K) (ta := tC (.str (Str.ofString ""))) (ls := z.cps.toList.map (foldC fs)) (ev_is ev_c (by rw [emp_str])) (by rw [List.map_map]; exact lc) (by show (foldL fs z.cps.toList).length ≤ _; omega)
    refine q_par1 (em_listT lj (by rw [stL_len]; show (foldL fs z.cps.toList).length ≤ _; omega)) (fun _ _ => ev_c) fun p H1 np e1 hp1 => ?_
    rw [stL_codes] at hp1
    have hp1 : H1 p = some (.lst (sgs (foldL fs z.cps.toList))) := hp1
    generalize hL0 : foldL fs z.cps.toList = l0 at *
    have kq : keyL fs ms z.cps.toList = ordL ms l0 [] := by unfold keyL; rw [hL0]
    refine q_while (fun m σ' H' => ∃ (l : List Nat) (rb : Bool) (y6 y7 y8 y9 : Option V), σ' = [some (.ref t), some (.str z), some (.ref pf), some (.ref pm), some (.ref p), some (.bl rb), y6, y7, y8, y9] ∧ Ex H H' ∧ H' p = some (.lst (sgs l)) ∧
      ordL ms l [] = ordL ms l0 [] ∧ l.length = l0.length ∧ (rb = true → still ms l) ∧ m = 2 * falls ms l + (if rb = true then 0 else 1)) (2 * falls ms l0 + 1) ⟨l0, false, none, none, none, none, rfl, e1, hp1, rfl, rfl, (fun z => absurd z Bool.false_ne_true), rfl⟩ ?_
    rintro m σ' H2 ⟨l, rb, y6, y7, y8, y9, rfl, e2, hp, ho, hlen, hst, rfl⟩
    refine ⟨!rb, et_not (et_B (ev_var rfl)), fun hb H3 e3 => ?_, fun hb H3 e3 => ?_⟩
    · have hrb : rb = false := by cases rb <;> first | rfl | cases hb
      subst hrb
      refine ⟨fun σ2 H2' => ∃ m', m' < 2 * falls ms l + 1 ∧ ∃ (l : List Nat) (rb : Bool) (y6 y7 y8 y9 : Option V), σ2 = [some (.ref t), some (.str z), some (.ref pf), some (.ref pm), some (.ref p), some (.bl rb), y6, y7, y8, y9] ∧ Ex H H2' ∧ H2' p = some (.lst (sgs l)) ∧
        ordL ms l [] = ordL ms l0 [] ∧ l.length = l0.length ∧ (rb = true → still ms l) ∧ m' = 2 * falls ms l + (if rb = true then 0 else 1), fun _ _ h => h, ?_⟩
      refine q_asg ev_c fun H4 e4 => ?_
      have hp4 : H4 p = some (.lst (sgs l)) := e4 _ _ (e3 _ _ hp)
      refine s_forR1 (n := (l.length : Int) - 1) (ea_cons (ev_is (ev_op (ev_lenL (ev_var rfl) (sq_of hp4)) ev_c rv_I0) (by rw [sgs_len])) ea_nil) (by omega)
        (fun i σ' H' => ∃ (l' : List Nat) (rb : Bool) (y6 y7 y8 y9 : Option V), σ' = [some (.ref t), some (.str z), some (.ref pf), some (.ref pm), some (.ref p), some (.bl rb), y6, y7, y8, y9] ∧ Ex H H' ∧ H' p = some (.lst (sgs l')) ∧
          ordL ms l' [] = ordL ms l0 [] ∧ l'.length = l0.length ∧ (rb = true → l' = l ∧ ∀ j, j < i → ∀ a b, l[j]? = some a → l[j + 1]? = some b → fall ms a b = false) ∧ (rb = false → falls ms l' < falls ms l))
        (fun H5 e5 => ⟨l, true, y6, y7, y8, y9, rfl, ((e2.trans e3).trans e4).trans e5, e5 _ _ hp4, ho, hlen, fun _ => ⟨rfl, fun j hj => absurd hj (Nat.not_lt_zero j)⟩, fun z => nomatch z⟩) ?_ ?_
      · rintro i σ' H5 hi ⟨l', rb, y6, y7, y8, y9, rfl, e5, hp5, ho', hlen', h1, h2⟩
        have hi1 : i + 1 < l'.length := by omega
        obtain ⟨a, ha⟩ : ∃ a, l'[i]? = some a := ⟨_, List.getElem?_eq_getElem (by omega)⟩
        obtain ⟨b, hb'⟩ : ∃ b, l'[i + 1]? = some b := ⟨_, List.getElem?_eq_getElem hi1⟩
        have hA : EvA (tCons (tOp (rIxL K) (tVar 4) (tVar 7)) (tCons (tOp (rIxL K) (tVar 4) (tOp (rI0 fun i j => .int (i + j)) (tVar 7) (tC (.int 1)))) tNil)) [some (.ref t), some (.str z), some (.ref pf), some (.ref pm), some (.ref p), some (.bl rb), y6, some (.int (i : Int)), y8, y9] H5 [.str (sgS a), .str (sgS b)] :=
          ea_cons (ev_op (ev_var rfl) (ev_var rfl) (rv_ixL (sq_of hp5) (atI_nat (sgs_get ha)))) (ea_cons (ev_op (ev_var rfl) (ev_op (ev_var rfl) ev_c rv_I0) (rv_ixL (sq_of hp5) (at_of (j := i + 1) (by omega) (sgs_get hb')))) ea_nil)
        refine q_par2 hA fun H6 e6 => ?_
        have e56 := e5.trans e6
        refine s_when (b := fall ms a b) (ev_fall (a := a) (b := b) rfl rfl rfl (e56 _ _ hm)) (fun hb H7 e7 => ?_) (fun hb H7 e7 => ?_)
        · have hp7 : H7 p = some (.lst (sgs l')) := e7 _ _ (e6 _ _ hp5)
          refine ⟨_, rfl, _, rfl, (by show 2 ≤ sizeLine; decide), fun t' nt' => ?_⟩
          have ntp : p ≠ t' := ne_of_none hp7 nt'
          refine ⟨t', _, rfl, st_of upd_same, rfl, _, _, rfl, _, rfl, _, rfl, p, _, _, i, rfl, rfl, (upd_ne ntp).trans hp7, ixN_nat (by rw [sgs_len]; omega), ?_⟩
          refine ⟨_, _, rfl, _, rfl, _, rfl, _, _, rfl, rfl, p, _, _, i + 1, rfl, rfl, upd_same, (show ixN _ ((i : Int) + 1) = _ from ixN_nat (n := _) (i := i + 1) (by rw [List.length_set, sgs_len]; omega)), rfl, ?_⟩
          refine s_asg ev_c fun H8 e8 => ?_
          obtain ⟨x, y, hx, hy, lt⟩ := fall_some hb
          have hsw := set_swap ha hb'
          have hsp := split_at ha hb'
          have ho2 : ordL ms ((l'.set i b).set (i + 1) a) [] = ordL ms l' [] := by
            rw [hsw]
            conv => rhs; rw [hsp]
            exact ordL_swap hy hx (by omega)
          have hf2 : falls ms ((l'.set i b).set (i + 1) a) + 1 = falls ms l' := by
            rw [hsw]
            conv => rhs; rw [hsp]
            exact falls_swap hb
          have hle : falls ms l' ≤ falls ms l := by
            cases rb with
            | true => rw [(h1 rfl).1]; exact Nat.le_refl _
            | false => exact Nat.le_of_lt (h2 rfl)
          refine ⟨(l'.set i b).set (i + 1) a, false, _, _, _, _, rfl, ?_, ?_, ho2.trans ho', by rw [List.length_set, List.length_set]; exact hlen', (fun z => absurd z Bool.false_ne_true), fun _ => by omega⟩
          · exact Ex.trans (fun y u hy' => by
              have ny : y ≠ p := ne_of_none hy' np
              have ny2 : y ≠ t' := ne_of_none (e7 _ _ (e56 _ _ hy')) nt'
              rw [upd_ne ny, upd_ne ny, upd_ne ny2]
              exact e7 _ _ (e56 _ _ hy')) e8
          · exact e8 _ _ (by rw [upd_same, sgs_set, sgs_set])
        · refine ⟨l', rb, _, _, _, _, rfl, e56.trans e7, e7 _ _ (e6 _ _ hp5), ho', hlen', fun hr' => ?_, h2⟩
          obtain ⟨rfl, h3⟩ := h1 hr'
          refine ⟨rfl, fun j hj a' b' ha' hb2 => ?_⟩
          by_cases hji : j = i
          · subst hji
            rw [ha] at ha'
            rw [hb'] at hb2
            cases ha'
            cases hb2
            exact hb
          · exact h3 j (by omega) a' b' ha' hb2
      · rintro σ' H5 ⟨l', rb, y6, y7, y8, y9, rfl, e5, hp5, ho', hlen', h1, h2⟩
        cases rb with
        | true =>
          obtain ⟨rfl, h3⟩ := h1 rfl
          refine ⟨_, ?_, l', true, _, _, _, _, rfl, e5, hp5, ho', hlen', fun _ => still_of fun j a b ha hb => ?_, rfl⟩
          · show 2 * falls ms l' + 0 < _
            omega
          · have hj := (List.getElem?_eq_some_iff.mp hb).1
            exact h3 j (by omega) a b ha hb
        | false =>
          have h3 := h2 rfl
          refine ⟨_, ?_, l', false, _, _, _, _, rfl, e5, hp5, ho', hlen', (fun z => absurd z Bool.false_ne_true), rfl⟩
          show 2 * falls ms l' + 1 < _
          omega
    · have hrb : rb = true := by cases rb <;> first | rfl | cases hb
      subst hrb
      have hl : l = keyL fs ms z.cps.toList := by rw [kq, ← ho, ordL_id ro.okM (hst rfl)]
      refine s_ret (ev_joinP (l := l) (p := p) (ev_is ev_c (by rw [emp_str])) (ev_var rfl) (e3 _ _ hp) (by omega)) fun H4 e4 => ?_
      rw [hl]
      exact q H4 ((e2.trans e3).trans e4)
end
/-! ### what a table refuses -/
/-- a value that is no word -/
def NoWd (H : Hp) (x : V) : Prop := (∃ z : Str, x = .str z ∧ z.length ≤ 1000 ∧ upTo z 40 = false) ∨ Oth H x
theorem NoWd.same {H H' : Hp} {x : V} (h : NoWd H x) (s : Same H H') : NoWd H' x := by
  rcases h with h | h
  · exact .inl h
  · exact .inr (h.same s)
/-- other classes of errors: none of them is above NoWord -/
structure OthE (K : Fg) (mg : Str → Option Value) (A : TabA) (x : Str) (a : Addr) : Prop where
  mg : mg x = some (.ref a)
  no : PySem.W.kitOne K (.ref A.CW) (.ref a) = some false
def spRef (K : Fg) (C : Addr) : Sp := fun vs H Q _ => ∃ a x fs ms d, vs = [.ref a, x] ∧ TabAt C H a fs ms ∧ RuleOk fs ms ∧ NoWd H x ∧ Dx K H x d ∧ Fit d ∧ ∀ p H', H p = none → p ≠ sysModules → Same H H' → H' p = some (.lst [.str d.shown]) → Q (.ref p) H'
abbrev s__law_refused : Stmt := top 36
abbrev sc__law_refused_N : List Str := ["_law_table", "_law_thing", "e", "_law_others"]
theorem sc__law_refused : FnScope sc__law_refused_N ["_law_table", "_law_thing"] (defScope s__law_refused) := ⟨rfl, rfl, rfl, by decide +kernel, rfl, by decide +kernel, by decide +kernel⟩
section
variable {P : Program} {w : World} {K : Fg} {mg : Str → Option Value} {base : Heap} {A : TabA}
theorem ok__law_refused {f a1 a2 a3 a4 : Addr} {fd fd1 : FuncData} {k : Nat} (F : Fun K "_law_refused" "_law_refused" s__law_refused f fd) (T : Txt K mg) (TT : TabT K mg A) (C_call : CalM P w K mg base (L2.CX P w) k ["self", "word"] (spCallT A.C A.CW) A.gc fd1)
    (e1 : OthE K mg A "NoFold" a1) (e2 : OthE K mg A "NoPath" a2) (e3 : OthE K mg A "NoSign" a3) (e4 : OthE K mg A "NoText" a4) (eV : PySem.W.kitOne K (.ref A.CW) (.type "ValueError") = some true) : FnG P w K mg base CX0 (k + 1) f fd ["_law_table", "_law_thing"] (spRef K A.C) := by
  refine okG F sc__law_refused (fun vs H Q E h => ?_) (fun cdv A' outer s H vs Q E hG hr h => ?_)
  · obtain ⟨a, x, fs, ms, d, rfl, _⟩ := h
    rfl
  · obtain ⟨a, x, fs, ms, dd, rfl, ⟨dx, p, pm, ha, hp, hpm⟩, ro, nw, hD, hF, q⟩ := h
    refine ⟨_, pss_cons (ps_try_as (i := 2) (Wout := fun _ _ _ _ => False) rfl rfl sc__law_refused.nd rfl rfl ⟨rfl, by decide, Or.inl TT.mgW⟩ takes0
      (fun W pn xe tk _ => pss_one (ps_expr (pe_callOS (pv 0) TT.co C_call.r hr (fun σ => passAt tk σ) (pa_cons (pv 1) pa_nil))))
      (fun a oe cls d pn hz hf => pss_cons (ps_set (i := 3) sc__law_refused.nd rfl (Or.inl rfl) (pe_callB (call_isX TT.ex hz hf) (by rfl) T.b_isinstance (by decide +kernel) (pa_cons (pv 2) (pa_cons (pe_tup (pa_cons (pe_glob (v := .ref a1) (by rfl) e1.mg rfl) (pa_cons (pe_glob (v := .ref a2) (by rfl) e2.mg rfl) (pa_cons (pe_glob (v := .ref a3) (by rfl) e3.mg rfl) (pa_cons (pe_glob (v := .ref a4) (by rfl) e4.mg rfl) pa_nil))))) pa_nil))))
        (pss_one (ps_ret (pe_ifExp (PW.pt (pw_and (pt_val (pe_callB (call_isX TT.ex hz hf) (by rfl) T.b_isinstance (by decide +kernel) (pa_cons (pv 2) (pa_cons (pe_bltn (v := .ty "ValueError") (by rfl) T.b_ValueError (by decide +kernel) rfl) pa_nil)))) (pw_and1 (pt_not (pt_val (pv 3))))))
          (pe_lstS (pa_cons (pe_callB (show CallR (Cx.suite (cxOf CX0 P w K mg base sc__law_refused_N "_law_refused" (defScope s__law_refused) f cdv A' outer s H E).nox a ((a, oe) :: pn)) (.builtin "repr") (rRepr K) from call_repr (X := Cx.suite (cxOf CX0 P w K mg base sc__law_refused_N "_law_refused" (defScope s__law_refused) f cdv A' outer s H E).nox a ((a, oe) :: pn)) hG hr.units) (by rfl) T.b_repr (by decide +kernel) (pa_cons (pe_xf TT.xf TT.nW hz hf (pv 2)) pa_nil)) pa_nil)) (pe_lstS (pa_cons pe_str pa_nil)))))))
      (pss_one (ps_ret (pe_lstS pa_nil))), ?_⟩
    have nwk : ∀ W : WX, (∀ d H1, H d = none → Same H H1 → H1 d = some (.xd [(("word" : Str), x)]) → W (.ref A.CW) (some d) [some (.ref a), some x, none, none] H1) → spCallT A.C A.CW [.ref a, x] H (fun _ H1 => tRet (tLstS tNil) { nx := fun _ H' => Q .non H', rt := Q } [some (.ref a), some x, none, none] H1) (WE W [some (.ref a), some x, none, none]) := fun W hW => by
      refine ⟨a, x, fs, ms, rfl, ⟨dx, p, pm, ha, hp, hpm⟩, ro, ?_⟩
      rcases nw with ⟨z, rfl, hz, hu⟩ | ho
      · exact .inl ⟨z, rfl, hz, (fun h => by rw [hu] at h; cases h), fun _ => hW⟩
      · exact .inr ⟨ho, hW⟩
    refine ⟨_, rfl, a, rfl, _, rfl, ⟨dx, _, ha⟩, nwk _ fun d H1 nd s1 hd => ⟨true, TT.te, fun _ e ne => ?_, fun z => nomatch z⟩⟩
    -- the suite
    refine ⟨_, rfl, (by show 4 ≤ sizeLine; decide), fun tp ntp => ?_⟩
    have ndt : d ≠ tp := ne_of_none hd ntp
    have hd2 : (upd H1 tp (.tup [.ref a1, .ref a2, .ref a3, .ref a4])) d = some (.xd [(("word" : Str), x)]) := (upd_ne ndt).trans hd
    have s2 : Same H (upd H1 tp (.tup [.ref a1, .ref a2, .ref a3, .ref a4])) := s1.trans (same_new ntp)
    refine ⟨rfl, ⟨d, _, rfl, hd2⟩, _, false, rfl, .inr ⟨tp, _, [.ref a1, .ref a2, .ref a3, .ref a4], rfl, upd_same, .cons (.own a1) (.cons (.own a2) (.cons (.own a3) (.cons (.own a4) .nil))),
      kitAny_cons e1.no (fun _ => kitAny_cons e2.no (fun _ => kitAny_cons e3.no (fun _ => kitAny_cons e4.no (fun _ => kitAny_nil) fun z => nomatch z) fun z => nomatch z) fun z => nomatch z) fun z => nomatch z⟩, ?_⟩
    refine ⟨_, rfl, rfl, ⟨d, _, rfl, hd2⟩, _, true, rfl, .inl ⟨_, .ty "ValueError", eV⟩, true, rfl, iteT ⟨_, rfl, false, rfl, iteT ?_⟩⟩
    refine ⟨_, rfl, rfl, rfl, d, _, x, rfl, hd2, (by simp [List.lookup]), x, dd, rfl, hD.same s2, hF, (by show 1 ≤ sizeLine; decide), fun pr npr npr2 => ?_⟩
    exact q pr _ (s2.free npr) npr2 (s2.trans (same_new npr)) upd_same
end
end Nm


set_option Elab.async false
set_option linter.all false
set_option maxRecDepth 100000
set_option maxHeartbeats 4000000
namespace Nm
open PySem PySem.Spec PyProof.Rows L2 Evl
/-! ### sorted twice, texts joined -/
theorem ltCps_one {x p : Nat} : ltCps (sgS x).cps.toList (sgS p).cps.toList = decide (x < p) := by
  show ltCps [x] [p] = _
  simp [ltCps]
theorem rising_sgs : ∀ {l : List Nat} {p : Nat}, risingS (sgS p) (l.map sgS) = true → (p :: l).Pairwise (· ≤ ·)
  | [], _, _ => List.pairwise_singleton ..
  | x :: r, p, h => by
    have h : (!ltCps (sgS x).cps.toList (sgS p).cps.toList && risingS (sgS x) (r.map sgS)) = true := h
    rw [Bool.and_eq_true, ltCps_one] at h
    have h1 : p ≤ x := by have := h.1; simp at this; exact this
    have ih := rising_sgs h.2
    refine List.pairwise_cons.mpr ⟨fun y hy => ?_, ih⟩
    rcases List.mem_cons.mp hy with e | m
    · rw [e]; exact h1
    · exact Nat.le_trans h1 ((List.pairwise_cons.mp ih).1 y m)
theorem sorted_sgs {l : List Nat} (h : sortedS (l.map sgS) = true) : l.Pairwise (· ≤ ·) := by
  cases l with
  | nil => exact List.Pairwise.nil
  | cons x r => exact rising_sgs h
theorem same_sorted : ∀ {a b : List Nat}, a.Perm b → a.Pairwise (· ≤ ·) → b.Pairwise (· ≤ ·) → a = b
  | [], b, h, _, _ => (List.Perm.nil_eq h)
  | x :: r, [], h, _, _ => absurd h.length_eq (by simp)
  | x :: r, y :: t, h, h1, h2 => by
    obtain ⟨a1, a2⟩ := List.pairwise_cons.mp h1
    obtain ⟨b1, b2⟩ := List.pairwise_cons.mp h2
    have exy : x = y := by
      have hx : x ∈ y :: t := h.mem_iff.mp (List.mem_cons_self ..)
      have hy : y ∈ x :: r := h.mem_iff.mpr (List.mem_cons_self ..)
      have le1 : y ≤ x := by
        rcases List.mem_cons.mp hx with e | m
        · omega
        · exact b1 x m
      have le2 : x ≤ y := by
        rcases List.mem_cons.mp hy with e | m
        · omega
        · exact a1 y m
      omega
    subst exy
    rw [same_sorted (List.Perm.cons_inv h) a2 b2]
theorem perm_sgs {ys : List Str} {l : List Nat} (h : ys.Perm (l.map sgS)) : ∃ m : List Nat, ys = m.map sgS ∧ m.Perm l := by
  refine ⟨ys.map fun z => z.cps.toList.headD 0, ?_, ?_⟩
  · rw [List.map_map]
    symm
    refine (List.map_congr_left fun y hy => ?_).trans (List.map_id ys)
    obtain ⟨c, _, rfl⟩ := List.mem_map.mp (h.mem_iff.mp hy)
    rfl
  · have := h.map fun z => z.cps.toList.headD 0
    rw [List.map_map] at this
    refine this.trans (List.Perm.of_eq ?_)
    exact (List.map_congr_left fun c _ => rfl).trans (List.map_id l)
theorem sorted_one {ys zs : List Str} {l : List Nat} (h1 : ys.Perm (l.map sgS)) (s1 : sortedS ys = true) (h2 : zs.Perm (l.map sgS)) (s2 : sortedS zs = true) : ys = zs := by
  obtain ⟨a, rfl, pa⟩ := perm_sgs h1
  obtain ⟨b, rfl, pb⟩ := perm_sgs h2
  rw [same_sorted (pa.trans pb.symm) (sorted_sgs s1) (sorted_sgs s2)]
theorem join_stL (ls : List (List Nat)) : Txt.join ⟨#[]⟩ (ls.map stL) = stL ls.flatten := by
  refine Str.ext' (Array.toList_inj.mp ?_)
  rw [join_codes, stL_codes, List.map_map]
  congr 1
  exact (List.map_congr_left fun l _ => stL_codes l).trans (List.map_id _)
theorem sum_stL (ls : List (List Nat)) : ((ls.map stL).map (·.length)).sum = ls.flatten.length := by
  rw [List.length_flatten, List.map_map]
  congr 1
theorem repS_sg (c n : Nat) : repS (sgS c) n = stL (List.replicate n c) := by
  unfold repS
  congr 1
  show (List.replicate n [c]).flatten = _
  induction n with
  | zero => rfl
  | succ n ih => rw [List.replicate_succ, List.flatten_cons, ih, List.replicate_succ]; rfl
theorem dp_strs {K : Fg} {H : Hp} : ∀ ys : List Str, DpAll K H (ys.map V.str) (ys.map PyData.str)
  | [] => .nil
  | y :: r => .cons (.str y) (dp_strs r)
theorem plain_strs (ys : List Str) (hs : ∀ y ∈ ys, PyData.strOk y = true) : PyData.eqv (.list (ys.map PyData.str)) (.list (ys.map PyData.str)) = true ∧ SeqAt.shaped (.list (ys.map PyData.str)) = true := by
  have h1 : (PyData.list (ys.map PyData.str)).canLay0 = true := by
    simp only [PyData.canLay0]
    rw [canLayAll_strs', List.all_eq_true]
    exact hs
  have h2 : PyData.depthAll (ys.map PyData.str) = 0 := by
    clear h1 hs
    induction ys with
    | nil => rfl
    | cons b r ih => simp [PyData.depthAll, PyData.depth, ih]
  refine ⟨SeqAt.eqv_refl _ h1, ?_⟩
  unfold SeqAt.shaped
  rw [h1]
  simp only [PyData.depth, h2]
  rfl
theorem sgn_low {c : Nat} (h : sgn c = true) : c < 1000 := by
  have h1 : SIGNS.cps.toList.all (fun c => decide (c < 1000)) = true := by decide +kernel
  exact of_decide_eq_true (List.all_eq_true.mp h1 c (of_decide_eq_true h))
section
variable {K : Fg} {σ : L2.St} {H : Hp} {ta tb : TE} {t : TA}
theorem ev_neSort {l : List Nat} (ha : Ev ta σ H (.str (stL l))) (hb : Ev tb σ H (.str (stL l))) (hl : l.length < 64) (hs : ∀ c ∈ l, sgn c = true) : Ev (tOp (rNeD K) (tCB rSortT (tCons ta tNil)) (tCB rSortT (tCons tb tNil))) σ H (.bl false) := fun H1 e Q q =>
  ha H1 e _ fun H2 e2 => ⟨stL l, rfl, by rw [stL_len]; exact hl, fun ys p perm so np => hb _ ((e.trans e2).trans (Ex.new np)) _ fun H3 e3 => ⟨stL l, rfl, by rw [stL_len]; exact hl, fun zs p2 perm2 so2 np2 => by
    rw [stL_codes] at perm perm2
    obtain rfl := sorted_one perm so perm2 so2
    have ok : ∀ y ∈ ys, PyData.strOk y = true := fun y hy => by
      obtain ⟨c, hc, rfl⟩ := List.mem_map.mp (perm.mem_iff.mp hy)
      have := sgn_low (hs c hc)
      simp [PyData.strOk, sgS]
      omega
    have hp3 : (upd H3 p2 (.lst (ys.map V.str))) p = some (.lst (ys.map V.str)) := (upd_ne (ne_of_none (e3 _ _ upd_same) np2)).trans (e3 _ _ upd_same)
    refine ⟨_, _, .lst (SqL.of hp3) (dp_strs ys), .lst (SqL.of upd_same) (dp_strs ys), (plain_strs ys ok).2, (plain_strs ys ok).2, ?_⟩
    rw [(plain_strs ys ok).1]
    exact q _ (((e2.trans (Ex.new np)).trans e3).trans (Ex.new np2))⟩⟩
theorem ev_callO {X : Cx} {C a : Addr} {sp : Sp} {E : XK} {vs : List V} {z : V} {tf : TE} (hf : Ev tf σ H (.ref a)) (ha : EvA t σ H vs) (hi : ∃ dx fs, H a = some (.ins C dx fs)) (hs : SpV sp (.ref a :: vs) H z) : Ev (StX.tCallO X C sp E tf t) σ H z := fun H1 e Q q =>
  hf H1 e _ fun H2 e2 => ⟨a, rfl, ha H2 (e.trans e2) _ fun H3 e3 => by
    obtain ⟨dx, fs, hi⟩ := hi
    exact ⟨.inr ⟨dx, fs, ((e.trans e2).trans e3) _ _ hi⟩, hs H3 ((e.trans e2).trans e3) Q (fun H4 e4 => q H4 ((e2.trans e3).trans e4)) E⟩⟩
end
theorem sp_callT {H : Hp} {C CW a : Addr} {fs : Fds} {ms : Mks} {l : List Nat} (ht : TabAt C H a fs ms) (ro : RuleOk fs ms) (wd : Wd l 40) : SpV (spCallT C CW) [.ref a, .str (stL l)] H (.str (stL (keyL fs ms l))) := fun H1 e Q q E =>
  ⟨a, _, fs, ms, rfl, ht.same e, ro, .inl ⟨stL l, rfl, by rw [stL_len]; have := wd.le; omega, fun _ H2 e2 => by rw [stL_codes]; exact q H2 e2, fun h => by rw [show upTo (stL l) 40 = true from upTo_iff.mpr wd] at h; cases h⟩⟩
theorem sp_keyL {H : Hp} {t pf pm : Addr} {fs : Fds} {ms : Mks} {l : List Nat} (ht : H t = some (.tup [.ref pf, .ref pm])) (hf : H pf = some (.dK (kF fs))) (hm : H pm = some (.dK (kM ms))) (ro : RuleOk fs ms) (wd : Wd l 40) :
    SpV spKey ([.ref t, .str (stL l)] ++ []) H (.str (stL (keyL fs ms l))) := fun H1 e Q q _ =>
  ⟨t, pf, pm, stL l, fs, ms, rfl, e _ _ ht, e _ _ hf, e _ _ hm, ro, by rw [stL_codes]; exact wd.up (by decide), fun H2 e2 => by rw [stL_codes]; exact q H2 e2⟩
theorem But1.tr {b : Addr} {H H1 H2 : Hp} (x : But1 b H H1) (y : But1 b H1 H2) : But1 b H H2 := fun p u ne e => y p u ne (x p u ne e)
theorem But1.of {b : Addr} {H H1 : Hp} (x : Same H H1) : But1 b H H1 := fun p u _ e => x p u e
theorem TabAt.but {C a b : Addr} {H H1 : Hp} {fs : Fds} {ms : Mks} {n : Nat} (h : TabAt C H a fs ms) (hb : BagAt H b n) (x : But1 b H H1) : TabAt C H1 a fs ms := by
  obtain ⟨dx, p, q, h1, h2, h3⟩ := h
  obtain ⟨d, y, c, e, _⟩ := hb
  exact ⟨dx, p, q, x _ _ (ne_of h1 e (by intro z; cases z)) h1, x _ _ (ne_of h2 e (by intro z; cases z)) h2, x _ _ (ne_of h3 e (by intro z; cases z)) h3⟩
theorem rule_nil : RuleOk [] [] := ⟨List.nodup_nil, fun p h => absurd h List.not_mem_nil, fun p h => absurd h List.not_mem_nil, by decide, List.nodup_nil, fun p h => absurd h List.not_mem_nil, fun p h => absurd h List.not_mem_nil, by decide⟩
theorem keyL_nil (l : List Nat) : keyL [] [] l = l := by
  unfold keyL
  rw [foldL_id fun c _ => rfl, ordL_id (fun c x h => by cases h) (still_of fun i a b _ _ => rfl)]
theorem rv_mulT {H : Hp} {z : Str} {k : Int} (h0 : 0 ≤ k) (h1 : k ≤ 1000) (hz : z.length ≤ 1000) : RV rMulT (.str z) (.int k) H (.str (repS z k.toNat)) := fun H1 _ _ q => ⟨z, k, rfl, rfl, h0, h1, hz, q H1 (Ex.refl _)⟩
theorem mk_wd {ls : List (List Nat)} {n : Nat} (hn : ls.length = n) (h : ∀ l ∈ ls, 1 ≤ l.length ∧ l.length ≤ 3 ∧ ∀ c ∈ l, c ∈ MKS.cps.toList) (h1 : 1 ≤ n) : Wd ls.flatten (3 * n) ∧ ∀ c ∈ ls.flatten, c ∈ MKS.cps.toList := by
  have hm : ∀ c ∈ ls.flatten, c ∈ MKS.cps.toList := fun c hc => by
    obtain ⟨l, hl, hcl⟩ := List.mem_flatten.mp hc
    exact (h l hl).2.2 c hcl
  have f3 := List.all_eq_true.mp fk_facts.2.2.1
  refine ⟨⟨?_, ?_, fun c hc => ?_⟩, hm⟩
  · cases ls with
    | nil => simp at hn; omega
    | cons l r =>
      have := (h l (List.mem_cons_self ..)).1
      rw [List.flatten_cons, List.length_append]
      omega
  · rw [← hn]
    exact flat_len fun l hl => (h l hl).2.1
  · have := f3 c (hm c hc)
    rw [Bool.and_eq_true] at this
    exact this.1
theorem mk_key {fs : Fds} {ms : Mks} {l : List Nat} (ro : RuleOk fs ms) (hk : ∀ p ∈ fs, p.1 ∈ FK) (h : ∀ c ∈ l, c ∈ MKS.cps.toList) : (keyL fs ms l).length = l.length := by
  have f3 := List.all_eq_true.mp fk_facts.2.2.1
  have e : foldL fs l = l := foldL_id fun c hc => lk_none.mpr fun p hp e => by
    have := f3 c (h c hc)
    rw [Bool.and_eq_true] at this
    have h2 := hk p hp
    rw [e] at h2
    rw [decide_eq_true h2] at this
    exact absurd this.2 (by decide)
  unfold keyL
  rw [e, len_ordL ro.okM (fun c h => absurd h List.not_mem_nil)]
  simp
theorem ev_neRef {K : Fg} {σ : L2.St} {H : Hp} {ta tb : TE} {s : Str} (hs : PyData.strOk s = true) (ha : EvL ta σ H [.str s]) (hb : EvL tb σ H [.str s]) : Ev (tOp (rNeD K) ta tb) σ H (.bl false) :=
  ev_opLL ha hb fun p q H1 hp hq _ => fun H2 e Q k => ⟨_, _, .lst (SqL.of (e _ _ hp)) (dp_strs [s]), .lst (SqL.of (e _ _ hq)) (dp_strs [s]), (plain_strs [s] (fun y hy => by rw [List.mem_singleton.mp hy]; exact hs)).2, (plain_strs [s] (fun y hy => by rw [List.mem_singleton.mp hy]; exact hs)).2, by
    rw [(plain_strs [s] (fun y hy => by rw [List.mem_singleton.mp hy]; exact hs)).1]
    exact k H2 (Ex.refl _)⟩
theorem sl_ref {K : Fg} {C tb : Addr} {H : Hp} {fs : Fds} {ms : Mks} {x : V} {d : PyData} (ht : TabAt C H tb fs ms) (ro : RuleOk fs ms) (nw : NoWd H x) (hD : Dx K H x d) (hF : Fit d) : SpL (spRef K C) ([.ref tb, x] ++ []) H [.str d.shown] := fun H1 e Q q _ =>
  ⟨tb, x, fs, ms, d, rfl, ht.same e, ro, nw.same e, hD.same e, hF, fun p H2 np _ s hp => q p H2 np s hp⟩
theorem tab_ins {C a : Addr} {H : Hp} {fs : Fds} {ms : Mks} (h : TabAt C H a fs ms) : ∃ dx gs, H a = some (.ins C dx gs) := by
  obtain ⟨dx, p, q, h, _⟩ := h
  exact ⟨dx, _, h⟩
def spLaw (K : Fg) : Sp := fun vs H Q _ => ∃ (a : Addr) (ns : List Int), vs = [.ref a] ∧ SqL K H a (ns.map V.int) ∧ ns.length ≤ 63 ∧ ∀ H', Q (.bl true) H'
abbrev s_law : Stmt := top 37
abbrev sc_law_N : List Str := ["_law_script", "_law_at", "_law_bag_here", "_law_turn", "_law_rule_here", "_law_table", "_law_most", "_law_word_here", "_law_due", "_law_runs", "_law_k", "_law_thing", "_law_bare"]
theorem sc_law : FnScope sc_law_N ["_law_script"] (defScope s_law) := ⟨rfl, rfl, rfl, by decide +kernel, rfl, by decide +kernel, by decide +kernel⟩
section
variable {P : Program} {w : World} {K : Fg} {mg : Str → Option Value} {base : Heap} {A : TabA}
theorem ok_law {f f1 f2 f3 f4 f5 f6 : Addr} {fd fd1 fd2 fd3 fd4 fd5 fd6 fd7 fd8 : FuncData} {k : Nat} (F : Fun K "law" "law" s_law f fd) (T : Txt K mg) (TT : TabT K mg A)
    (C__law_bag : Cal P w K mg base CX0 k "_law_bag" ["_law_script", "_law_at"] (spBag K) f1 fd1)
    (C__law_take : Cal P w K mg base CX0 k "_law_take" ["_law_bag_here", "_law_many"] spTake f2 fd2)
    (C__law_rule : Cal P w K mg base CX0 k "_law_rule" ["_law_bag_here"] spRule f3 fd3)
    (C__law_word : Cal P w K mg base CX0 k "_law_word" ["_law_bag_here", "_law_most"] spWord f4 fd4)
    (C__law_key : Cal P w K mg base CX0 k "_law_key" ["_law_rule_here", "_law_word_here"] spKey f5 fd5)
    (C__law_refused : CalG P w K mg base CX0 k "_law_refused" ["_law_table", "_law_thing"] (spRef K A.C) f6 fd6)
    (C_init : CalM P w K mg base CX0 k ["self", "folds", "marks"] (spInitT A.C) A.fi fd7) (C_call : CalM P w K mg base (L2.CX P w) k ["self", "word"] (spCallT A.C A.CW) A.gc fd8) :
    FnG P w K mg base CX0 (k + 2) f fd ["_law_script"] (spLaw K) := by
  refine okG F sc_law (fun vs H Q E h => ?_) (fun cdv A' outer s H vs Q E hG hr h => ?_)
  · obtain ⟨a, ns, rfl, _⟩ := h
    rfl
  · obtain ⟨a, ns, rfl, hS, hl, q⟩ := h
    have hr1 : Room k _ := hr.mono (by omega)
    refine ⟨_, (pss_cons (ps_for PassesOwn.never rfl (pi_range1 (by rfl) T.b_range (pa_cons (pe_callB (call_max2 rfl) (by rfl) T.b_max (by decide +kernel) (pa_cons pe_int (pa_cons (pe_callB (call_min2 rfl) (by rfl) T.b_min (by decide +kernel) (pa_cons pe_int (pa_cons (pe_callB call_len_seq (by rfl) T.b_len PySem.boot_len (pa_cons (pv 0) pa_nil)) pa_nil))) pa_nil))) pa_nil)) (pg_name (i := 1) sc_law.nd rfl (Or.inl rfl)) (pss_cons (ps_set (i := 2) sc_law.nd rfl (Or.inr rfl) (pe_call C__law_bag.ok hr1 (by rfl) C__law_bag.mg C__law_bag.kp C__law_bag.b .nil pass0 (pa_cons (pv 0) (pa_cons (pv 1) pa_nil))))
      (pss_cons (ps_for PassesOwn.never rfl (pi_range1 (by rfl) T.b_range (pa_cons pe_int pa_nil)) (pg_name (i := 3) sc_law.nd rfl (Or.inl rfl)) (pss_cons (ps_set (i := 4) sc_law.nd rfl (Or.inl rfl) (pe_call C__law_rule.ok hr1 (by rfl) C__law_rule.mg C__law_rule.kp C__law_rule.b .nil pass0 (pa_cons (pv 2) pa_nil)))
      (pss_cons (ps_set (i := 5) sc_law.nd rfl (Or.inl rfl) (pe_make TT.mkT C_init.ok hr (by rfl) TT.mgC C_init.b .nil pass0 (pa_cons (pe_ix ix_tup (pv 4) pe_int (fun _ _ => rfl)) (pa_cons (pe_ix ix_tup (pv 4) pe_int (fun _ _ => rfl)) pa_nil))))
      (pss_cons (ps_for PassesOwn.never rfl (pi_tup (pe_tup (pa_cons pe_int (pa_cons pe_int (pa_cons pe_int (pa_cons pe_int (pa_cons pe_int pa_nil))))))) (pg_name (i := 6) sc_law.nd rfl (Or.inl rfl)) (pss_cons (ps_set (i := 7) sc_law.nd rfl (Or.inl rfl) (pe_call C__law_word.ok hr1 (by rfl) C__law_word.mg C__law_word.kp C__law_word.b .nil pass0 (pa_cons (pv 2) (pa_cons (pv 6) pa_nil))))
      (pss_cons (ps_set (i := 8) sc_law.nd rfl (Or.inl rfl) (pe_call C__law_key.ok hr1 (by rfl) C__law_key.mg C__law_key.kp C__law_key.b .nil pass0 (pa_cons (pv 4) (pa_cons (pv 7) pa_nil))))
      (pss_cons (ps_if (PW.pt (pw_or (pt_cmpR op_ne (StX.pe_callO (pv 5) TT.co C_call.r hr1 passL (pa_cons (pv 7) pa_nil)) (pv 8) (nomark _)) (pw_or1 (pt_cmpR op_ne (StX.pe_callO (pv 5) TT.co C_call.r hr1 passL (pa_cons (pv 7) pa_nil)) (pv 8) (nomark _))))) (pss_one (ps_ret pe_bl)) pss_nil)
      (pss_one (ps_if (PW.pt (pw_and (pt_cmpR op_lt (pe_callB call_len_str (by rfl) T.b_len PySem.boot_len (pa_cons (pv 8) pa_nil)) pe_int (nomark _)) (pw_and1 (pt_cmpR op_ne (StX.pe_callO (pv 5) TT.co C_call.r hr1 passL (pa_cons (pv 8) pa_nil)) (pv 8) (nomark _))))) (pss_one (ps_ret pe_bl)) pss_nil))))))
      (pss_cons (ps_set (i := 9) sc_law.nd rfl (Or.inl rfl) (pe_join pe_str (pe_lc (own := [("_law_k", 10)]) (g := gName 10) (tt := tYes) rfl sc_law.nd (pi_range1 (by rfl) T.b_range (pa_cons pe_int pa_nil)) (blkOk_by (own := [("_law_k", 10)]) (N := sc_law_N) (sc := defScope s_law) (by decide +kernel)) (fun _ _ _ _ _ => (pg_name (i := 10) sc_law.nd rfl (Or.inl rfl))) (fun _ _ _ _ _ => pts_nil) (fun _ _ _ _ _ => (pe_op op_mulT (pe_ix ix_str pe_str (pe_call C__law_take.ok hr1 (by rfl) C__law_take.mg C__law_take.kp C__law_take.b .nil pass0 (pa_cons (pv 2) (pa_cons pe_int pa_nil))) (fun _ _ => rfl)) (pe_op op_add pe_int (pe_call C__law_take.ok hr1 (by rfl) C__law_take.mg C__law_take.kp C__law_take.b .nil pass0 (pa_cons (pv 2) (pa_cons pe_int pa_nil)))))))))
      (pss_one (ps_if (PW.pt (pw_or (pt_cmpR op_ne (StX.pe_callO (pv 5) TT.co C_call.r hr1 passL (pa_cons (pv 9) pa_nil)) (pe_call C__law_key.ok hr1 (by rfl) C__law_key.mg C__law_key.kp C__law_key.b .nil pass0 (pa_cons (pv 4) (pa_cons (pv 9) pa_nil))) (nomark _)) (pw_or1 (pt_cmpR (op_neD hr.units) (pe_callB (call_sortT rfl) (by rfl) T.b_sorted (by decide +kernel) (pa_cons (StX.pe_callO (pv 5) TT.co C_call.r hr1 passL (pa_cons (pv 9) pa_nil)) pa_nil)) (pe_callB (call_sortT rfl) (by rfl) T.b_sorted (by decide +kernel) (pa_cons (pe_call C__law_key.ok hr1 (by rfl) C__law_key.mg C__law_key.kp C__law_key.b .nil pass0 (pa_cons (pv 4) (pa_cons (pv 9) pa_nil))) pa_nil)) (nomark _))))) (pss_one (ps_ret pe_bl)) pss_nil)))))))
      (pss_one (ps_for PassesOwn.never rfl (pi_list (pe_lstS (pa_cons pe_str (pa_cons pe_str (pa_cons pe_str (pa_cons (pe_op op_mulT pe_str pe_int) (pa_cons pe_non (pa_cons pe_bl (pa_cons pe_int (pa_cons (pe_lstS (pa_cons pe_str pa_nil)) (pa_cons (pe_tup (pa_cons pe_str pa_nil)) (pa_cons pe_dnewK (pa_cons pe_str (pa_cons pe_str (pa_cons (pe_lstS pa_nil) (pa_cons (pe_op op_pow pe_int pe_int) pa_nil)))))))))))))))) (pg_name (i := 11) sc_law.nd rfl (Or.inl rfl)) (pss_one (ps_if (pt_cmpR (op_neD hr.units) (pe_callG C__law_refused.ok hG hr1 (by rfl) C__law_refused.mg C__law_refused.kp C__law_refused.b .nil pass0 (pa_cons (pv 5) (pa_cons (pv 11) pa_nil))) (pe_lstS (pa_cons (pe_callB (call_repr hG hr.units) (by rfl) T.b_repr (by decide +kernel) (pa_cons (pv 11) pa_nil)) pa_nil)) (nomark _)) (pss_one (ps_ret pe_bl)) pss_nil)))))))
      (pss_cons (ps_set (i := 12) sc_law.nd rfl (Or.inl rfl) (pe_make TT.mkT C_init.ok hr (by rfl) TT.mgC C_init.b .nil pass0 (pa_cons pe_dnewK (pa_cons pe_dnewK pa_nil))))
      (pss_one (ps_ret (pe_and (pe_cmpR op_eq (StX.pe_callO (pv 12) TT.co C_call.r hr1 passL (pa_cons pe_str pa_nil)) pe_str (nomark _)) (pe_one (pe_cmpR op_eq (StX.pe_callO (pv 12) TT.co C_call.r hr1 passL (pa_cons (pe_op op_mulT pe_str pe_int) pa_nil)) (pe_op op_mulT pe_str pe_int) (nomark _)))))))), ?_⟩
    have hN := turns_le (ns.length : Int)
    refine q_forR1 (n := turnsN (ns.length : Int)) (ea_cons (ev_is (ev_max2 ev_c (ev_min2 ev_c (ev_lenL (ev_var rfl) hS))) (by rw [List.length_map]; rfl)) ea_nil) (by omega)
      (fun _ σ' H' => ∃ y1 y2 y3 y4 y5 y6 y7 y8 y9 y10 y11 y12, σ' = [some (.ref a), y1, y2, y3, y4, y5, y6, y7, y8, y9, y10, y11, y12] ∧ Same H H')
      (fun H1 e1 => ⟨none, none, none, none, none, none, none, none, none, none, none, none, rfl, e1⟩) ?_ ?_
    · rintro i σ' H1 hi ⟨y1, y2, y3, y4, y5, y6, y7, y8, y9, y10, y11, y12, rfl, s1⟩
      refine ⟨_, rfl, _, rfl, a, ns, i, rfl, s1.seq hS, by omega, fun b H2 nb hB sB => ?_⟩
      refine q_forR1 (n := 3) (ea_cons ev_c ea_nil) (by decide)
        (fun j σ' H' => ∃ y3 y4 y5 y6 y7 y8 y9 y10, σ' = [some (.ref a), some (.int (i : Int)), some (.ref b), y3, y4, y5, y6, y7, y8, y9, y10, y11, y12] ∧ Same H1 H' ∧ BagAt H' b (1000 * j) ∧
          (0 < j → ∃ tb fs ms, y5 = some (.ref tb) ∧ TabAt A.C H' tb fs ms ∧ RuleOk fs ms))
        (fun H3 e3 => ⟨y3, y4, y5, y6, y7, y8, y9, y10, rfl, sB.trans e3, hB.same e3, fun h => absurd h (Nat.lt_irrefl 0)⟩) ?_ ?_
      · rintro j σ' H3 hj ⟨y3, y4, y5, y6, y7, y8, y9, y10, rfl, s3, hb3, _⟩
        refine ⟨_, rfl, b, 1000 * j, rfl, hb3, by omega, fun t pf pm fs ms H4 ro hk nt npf npm ht hf hm hb4 but4 => ?_⟩
        refine ⟨_, rfl, t, _, 0, _, rfl, rfl, st_of ht, rfl, _, rfl, t, _, 1, _, rfl, rfl, st_of ht, rfl, fun x dx nx ndx nex => ?_⟩
        have s4m : ∀ {p : Addr} {o : HO}, H4 p = some o → (upd (upd H4 dx (.own x)) x (.ins A.C dx [])) p = some o := fun e => by rw [upd_ne (ne_of_none e nx), upd_ne (ne_of_none e ndx)]; exact e
        refine ⟨x, dx, pf, pm, fs, ms, rfl, upd_same, s4m hf, s4m hm, ro, fun H5 p pq np nq npq hx hp hq keep => ⟨rfl, ?_⟩⟩
        have s45 : Same H4 H5 := fun p o e => keep p o (ne_of_none e nx) (s4m e)
        have ht5 : TabAt A.C H5 x fs ms := ⟨dx, p, pq, hx, hp, hq⟩
        have hb5 : BagAt H5 b (1000 * j + 200) := hb4.same s45
        -- the words
        refine ⟨(by show 5 ≤ sizeLine; decide), fun tt ntt => ⟨tt, rfl, ⟨_, st_of upd_same⟩, ?_⟩⟩
        have s56 := same_new (o := .tup [.int 1, .int 4, .int 12, .int 40, .int 40]) ntt
        have ht6 := ht5.same s56
        have hb6 := hb5.same s56
        have ntb : tt ≠ b := by
          obtain ⟨d, y, c, e, _⟩ := hb5
          exact (ne_of_none e ntt).symm
        have htt : (upd H5 tt (.tup [.int 1, .int 4, .int 12, .int 40, .int 40])) tt = some (.tup [.int 1, .int 4, .int 12, .int 40, .int 40]) := upd_same
        generalize hH6 : upd H5 tt (.tup [.int 1, .int 4, .int 12, .int 40, .int 40]) = H6 at *
        have ht' : H6 t = some (.tup [.ref pf, .ref pm]) := s56 _ _ (s45 _ _ ht)
        have hf' : H6 pf = some (.dK (kF fs)) := s56 _ _ (s45 _ _ hf)
        have hm' : H6 pm = some (.dK (kM ms)) := s56 _ _ (s45 _ _ hm)
        refine for_it walk_tup (fun j2 σ' H' => ∃ y6 y7 y8, σ' = [some (.ref a), some (.int (i : Int)), some (.ref b), some (.int (j : Int)), some (.ref t), some (.ref x), y6, y7, y8, y9, y10, y11, y12] ∧ But1 b H6 H' ∧ BagAt H' b (1000 * j + 200 + 50 * j2))
          ⟨y6, y7, y8, rfl, But1.of (Same.refl _), hb6⟩ (fun j2 σ' H' _ ⟨_, _, _, _, bu, _⟩ => st_of (bu _ _ ntb htt)) ?_ ?_
        · rintro j2 x2 σ' H7 H7' hj2 ⟨y6, y7, y8, rfl, but7, hb7⟩ ⟨rfl, hx2⟩
          have hj5 : j2 < 5 := hj2
          obtain ⟨m, rfl, hm1, hm2⟩ : ∃ m : Nat, x2 = .int (m : Int) ∧ 1 ≤ m ∧ m ≤ 40 := by
            have all : ∀ v ∈ ([.int 1, .int 4, .int 12, .int 40, .int 40] : List V), ∃ m : Nat, v = .int (m : Int) ∧ 1 ≤ m ∧ m ≤ 40 :=
              List.forall_mem_cons.mpr ⟨⟨1, rfl, by decide, by decide⟩, List.forall_mem_cons.mpr ⟨⟨4, rfl, by decide, by decide⟩, List.forall_mem_cons.mpr ⟨⟨12, rfl, by decide, by decide⟩, List.forall_mem_cons.mpr ⟨⟨40, rfl, by decide, by decide⟩, List.forall_mem_cons.mpr ⟨⟨40, rfl, by decide, by decide⟩, fun _ h => nomatch h⟩⟩⟩⟩⟩
            exact all x2 (List.mem_of_getElem? hx2)
          refine ⟨_, rfl, _, rfl, b, m, _, rfl, hb7, by omega, hm1, by omega, fun l H8 wd0 hb8 but8 => ?_⟩
          have wd := wd0.up hm2
          have but68 := but7.tr but8
          have ht8 := ht6.but hb6 but68
          have a1 := but68 _ _ nt ht'
          have a2 := but68 _ _ npf hf'
          have a3 := but68 _ _ npm hm'
          refine q_asg (ev_call (ea_cons (ev_var rfl) (ea_cons (ev_var rfl) ea_nil)) (sp_keyL a1 a2 a3 ro wd)) fun H9 e9 => ?_
          have ht9 := ht8.same e9
          refine q_when (b := false) (et_is (et_or (et_test (ev_neS (ev_callO (ev_var rfl) (ea_cons (ev_var rfl) ea_nil) (tab_ins ht9) (sp_callT ht9 ro wd)) (ev_var rfl))) fun _ => et_test (ev_neS (ev_callO (ev_var rfl) (ea_cons (ev_var rfl) ea_nil) (tab_ins ht9) (sp_callT ht9 ro wd)) (ev_var rfl))) (by simp)) (fun z => nomatch z) fun _ H10 e10 => ?_
          have ht10 := ht9.same e10
          obtain ⟨wk, _⟩ := keyL_ok ro wd
          refine s_when (b := false) (et_is (et_and (et_test (ev_op (ev_lenS (ev_var rfl) (by rw [stL_len]; have := wk.le; omega)) ev_c rv_I0)) fun hlt => et_test (ev_neS (ev_callO (ev_var rfl) (ea_cons (ev_var rfl) ea_nil) (tab_ins ht10) (sp_callT ht10 ro ⟨wk.ge, by have := of_decide_eq_true hlt; rw [stL_len] at this; omega, wk.sg⟩)) (ev_var rfl))) (by rw [keyL_keyL ro wd]; simp)) (fun z => nomatch z) fun _ H11 e11 => ?_
          exact ⟨_, _, _, rfl, but68.tr (But1.of ((e9.trans e10).trans e11)), (hb8.same ((e9.trans e10).trans e11)).up (by omega)⟩
        · rintro σ' H7 ⟨y6, y7, y8, rfl, but7, hb7⟩
          have hb7 : BagAt H7 b (1000 * j + 450) := hb7
          have d7 := Dr.out hb7
          -- runs of marks
          refine ⟨⟨_, rfl⟩, (10 : Int), rfl, by decide, by decide, fun D nD => ?_⟩
          have nbD : D ≠ b := d7.ne nD
          have moD : outH b H7 D = none := d7.free nD
          refine lc_rng (n := 10) (fun i2 xs G => Dr (outH b H7) b (1000 * j + 450 + 2 * i2) G ∧ ∃ ls : List (List Nat), xs = ls.map (fun l => V.str (stL l)) ∧ ∀ l ∈ ls, 1 ≤ l.length ∧ l.length ≤ 3 ∧ ∀ c ∈ l, c ∈ MKS.cps.toList) (by decide) ⟨d7.mut moD nbD, [], rfl, fun _ h => absurd h List.not_mem_nil⟩ ?_ ?_
          · rintro i2 xs G R hi2 ⟨dG, ls, rfl, hls⟩ hlen hGD k
            refine ⟨_, rfl, b, 4, _, rfl, dG.bag, by omega, by decide, by decide, fun r1 G1 h10 h11 hb1 bt1 => ?_⟩
            have dG1 := dG.take hb1 bt1
            obtain ⟨c, hc, hcm⟩ := atI_some (xs := MKS.cps.toList) h10 (by rw [fk_facts.2.2.2.2.1]; exact h11)
            refine ⟨MKS, r1, c, rfl, rfl, (by decide +kernel), hc, _, rfl, b, 3, _, rfl, dG1.bag, by omega, by decide, by decide, fun r2 G2 h20 h21 hb2 bt2 => ?_⟩
            have dG2 := dG1.take hb2 bt2
            refine ⟨_, _, rfl, rfl, sgS c, 1 + r2, rfl, rfl, by omega, by omega, (by decide : 1 ≤ 1000), ?_⟩
            rw [repS_sg]
            refine k _ _ ((bt2 D nbD).trans ((bt1 D nbD).trans hGD)) ⟨(dG2.mut moD nbD).up (by omega), ls ++ [List.replicate (1 + r2).toNat c], by rw [List.map_append]; rfl, fun l hl => ?_⟩
            rcases List.mem_append.mp hl with h | h
            · exact hls l h
            · rw [List.mem_singleton.mp h, List.length_replicate]
              exact ⟨by omega, by omega, fun c' hc' => by rw [List.eq_of_mem_replicate hc']; exact hcm⟩
          · rintro xs G hlen hGD ⟨dG, ls, rfl, hls⟩
            rw [List.length_map] at hlen
            obtain ⟨wd0, hmk⟩ := mk_wd hlen hls (by decide)
            have wd := wd0.up (m := 40) (by decide)
            have hk1 := mk_key ro hk hmk
            have hle := wd0.le
            refine ⟨_, D, ls.map stL, rfl, rfl, .inl (SqL.of (by rw [hGD, List.map_map]; rfl)), by rw [sum_stL, emp_str, show (⟨#[]⟩ : Str).length = 0 from rfl]; omega, ?_⟩
            rw [emp_str, join_stL]
            have but6 := but7.tr dG.but
            have ht8 := ht6.but hb6 but6
            have a1 := but6 _ _ nt ht'
            have a2 := but6 _ _ npf hf'
            have a3 := but6 _ _ npm hm'
            refine s_when (b := false) (et_is (et_or (et_test (ev_neS (ev_callO (ev_var rfl) (ea_cons (ev_var rfl) ea_nil) (tab_ins ht8) (sp_callT ht8 ro wd)) (ev_call (ea_cons (ev_var rfl) (ea_cons (ev_var rfl) ea_nil)) (sp_keyL a1 a2 a3 ro wd)))) fun _ => et_test (ev_neSort (ev_callO (ev_var rfl) (ea_cons (ev_var rfl) ea_nil) (tab_ins ht8) (sp_callT ht8 ro wd)) (ev_call (ea_cons (ev_var rfl) (ea_cons (ev_var rfl) ea_nil)) (sp_keyL a1 a2 a3 ro wd)) (by rw [hk1]; omega) (keyL_ok ro wd).1.sg)) (by simp)) (fun z => nomatch z) fun _ H9 e9 => ?_
            refine ⟨_, _, _, _, _, _, _, _, rfl, ?_, (dG.bag.same e9).up (by omega), fun _ => ⟨x, fs, ms, rfl, ht8.same e9, ro⟩⟩
            intro p o e
            have npb : p ≠ b := ne_of_none e nb
            exact e9 _ _ (but6 _ _ npb (s56 _ _ (s45 _ _ (but4 _ _ npb (s3 _ _ e)))))
      · rintro σ' H3 ⟨y3, y4, y5, y6, y7, y8, y9, y10, rfl, s3, hb3, h⟩
        obtain ⟨tb, fs, ms, rfl, ht, ro⟩ := h (by decide)
        -- what is refused
        refine ⟨_, _, rfl, rfl, by decide, by decide, by decide +kernel, (by show 1 ≤ sizeLine; decide), fun p1 n1 ne1 => ⟨(by show 1 ≤ sizeLine; decide), fun p2 n2 => fun p3 n3 => ⟨(by show 0 ≤ sizeLine; decide), fun p4 n4 ne4 => ⟨_, _, rfl, rfl, ⟨by decide, by decide, by decide⟩, (by show 14 ≤ sizeLine; decide), fun pl nl nel => ⟨pl, rfl, ⟨_, sq_of upd_same⟩, ?_⟩⟩⟩⟩⟩
        have q1 : ∀ {p : Addr} {o : HO} {H4 : Hp} {p' : Addr} {o' : HO}, H4 p' = none → H4 p = some o → (upd H4 p' o') p = some o := fun n e => (upd_ne (ne_of_none e n)).trans e
        have k1 := q1 (o' := .lst ([.str "", .str "a b", .str "a/b", .str (repS "a" (41 : Int).toNat), .non, .bl true, .int 0, .ref p1, .ref p2, .ref p3, .str "a\n", .str "!", .ref p4, .int (10 ^ (30 : Int).toNat)] : List V)) nl (q1 (o' := .lst []) n4 (q1 (o' := .dK []) n3 (q1 (o' := .tup [.str "a"]) n2 (upd_same (H := H3) (a := p1) (o := .lst [.str "a"])))))
        have k2 := q1 (o' := .lst ([.str "", .str "a b", .str "a/b", .str (repS "a" (41 : Int).toNat), .non, .bl true, .int 0, .ref p1, .ref p2, .ref p3, .str "a\n", .str "!", .ref p4, .int (10 ^ (30 : Int).toNat)] : List V)) nl (q1 (o' := .lst []) n4 (q1 (o' := .dK []) n3 (upd_same (H := upd H3 p1 (.lst [.str "a"])) (a := p2) (o := .tup [.str "a"]))))
        have k3 := q1 (o' := .lst ([.str "", .str "a b", .str "a/b", .str (repS "a" (41 : Int).toNat), .non, .bl true, .int 0, .ref p1, .ref p2, .ref p3, .str "a\n", .str "!", .ref p4, .int (10 ^ (30 : Int).toNat)] : List V)) nl (q1 (o' := .lst []) n4 (upd_same (H := upd (upd H3 p1 (.lst [.str "a"])) p2 (.tup [.str "a"])) (a := p3) (o := .dK [])))
        have k4 := q1 (o' := .lst ([.str "", .str "a b", .str "a/b", .str (repS "a" (41 : Int).toNat), .non, .bl true, .int 0, .ref p1, .ref p2, .ref p3, .str "a\n", .str "!", .ref p4, .int (10 ^ (30 : Int).toNat)] : List V)) nl (upd_same (H := upd (upd (upd H3 p1 (.lst [.str "a"])) p2 (.tup [.str "a"])) p3 (.dK [])) (a := p4) (o := .lst []))
        have sAll : Same H3 (upd (upd (upd (upd (upd H3 p1 (.lst [.str "a"])) p2 (.tup [.str "a"])) p3 (.dK [])) p4 (.lst [])) pl (.lst ([.str "", .str "a b", .str "a/b", .str (repS "a" (41 : Int).toNat), .non, .bl true, .int 0, .ref p1, .ref p2, .ref p3, .str "a\n", .str "!", .ref p4, .int (10 ^ (30 : Int).toNat)] : List V))) := fun p o e => q1 nl (q1 n4 (q1 n3 (q1 n2 (q1 n1 e))))
        have kl : (upd (upd (upd (upd (upd H3 p1 (.lst [.str "a"])) p2 (.tup [.str "a"])) p3 (.dK [])) p4 (.lst [])) pl (.lst ([.str "", .str "a b", .str "a/b", .str (repS "a" (41 : Int).toNat), .non, .bl true, .int 0, .ref p1, .ref p2, .ref p3, .str "a\n", .str "!", .ref p4, .int (10 ^ (30 : Int).toNat)] : List V))) pl = some (.lst ([.str "", .str "a b", .str "a/b", .str (repS "a" (41 : Int).toNat), .non, .bl true, .int 0, .ref p1, .ref p2, .ref p3, .str "a\n", .str "!", .ref p4, .int (10 ^ (30 : Int).toNat)] : List V)) := upd_same
        show ∃ W, _
        generalize (upd (upd (upd (upd (upd H3 p1 (.lst [.str "a"])) p2 (.tup [.str "a"])) p3 (.dK [])) p4 (.lst [])) pl (.lst ([.str "", .str "a b", .str "a/b", .str (repS "a" (41 : Int).toNat), .non, .bl true, .int 0, .ref p1, .ref p2, .ref p3, .str "a\n", .str "!", .ref p4, .int (10 ^ (30 : Int).toNat)] : List V))) = HL at *
        have ht2 := ht.same sAll
        have tx : ∀ z : Str, ((decide (z.length ≤ 1000) && !upTo z 40) && (fitB (.str z) && PyData.strOk (PyData.str z).shown)) = true → NoWd HL (.str z) ∧ ∃ d, Dx K HL (.str z) d ∧ Fit d ∧ PyData.strOk d.shown = true := fun z h => by
          simp only [Bool.and_eq_true, decide_eq_true_eq, Bool.not_eq_true'] at h
          exact ⟨.inl ⟨z, rfl, h.1.1, h.1.2⟩, _, .str z, fit_of h.2.1, h.2.2⟩
        have ot : ∀ {x : V} {d : PyData}, Oth HL x → Dx K HL x d → (fitB d && PyData.strOk d.shown) = true → NoWd HL x ∧ ∃ d, Dx K HL x d ∧ Fit d ∧ PyData.strOk d.shown = true := fun ho hd h => by
          rw [Bool.and_eq_true] at h
          exact ⟨.inr ho, _, hd, fit_of h.1, h.2⟩
        have all : ∀ y ∈ ([.str "", .str "a b", .str "a/b", .str (repS "a" (41 : Int).toNat), .non, .bl true, .int 0, .ref p1, .ref p2, .ref p3, .str "a\n", .str "!", .ref p4, .int (10 ^ (30 : Int).toNat)] : List V), NoWd HL y ∧ ∃ d, Dx K HL y d ∧ Fit d ∧ PyData.strOk d.shown = true := by
          refine List.forall_mem_cons.mpr ⟨tx _ (by decide +kernel), List.forall_mem_cons.mpr ⟨tx _ (by decide +kernel), List.forall_mem_cons.mpr ⟨tx _ (by decide +kernel), List.forall_mem_cons.mpr ⟨tx _ (by decide +kernel), ?_⟩⟩⟩⟩
          refine List.forall_mem_cons.mpr ⟨ot .non .non (by decide +kernel), List.forall_mem_cons.mpr ⟨ot (.bl true) (.bl true) (by decide +kernel), List.forall_mem_cons.mpr ⟨ot (.int 0) (.int 0) (by decide +kernel), ?_⟩⟩⟩
          refine List.forall_mem_cons.mpr ⟨ot (.lst k1) (.lst ne1 (sq_of k1) (.cons (.str "a") .nil)) (by decide +kernel), List.forall_mem_cons.mpr ⟨ot (.tup k2) (.tup (st_of k2) (.cons (.str "a") .nil)) (by decide +kernel), List.forall_mem_cons.mpr ⟨ot (.dic k3) (.dic (.inl k3) .nil) (by decide +kernel), ?_⟩⟩⟩
          exact List.forall_mem_cons.mpr ⟨tx _ (by decide +kernel), List.forall_mem_cons.mpr ⟨tx _ (by decide +kernel), List.forall_mem_cons.mpr ⟨ot (.lst k4) (.lst ne4 (sq_of k4) .nil) (by decide +kernel), List.forall_mem_cons.mpr ⟨ot (.int _) (.int _) (by decide +kernel), fun _ h => absurd h List.not_mem_nil⟩⟩⟩⟩
        refine for_it walk_list (fun i2 σ' H' => ∃ y11, σ' = [some (.ref a), some (.int (i : Int)), some (.ref b), y3, y4, some (.ref tb), y6, y7, y8, y9, y10, y11, y12] ∧ Same HL H') ⟨y11, rfl, Same.refl _⟩ (fun i2 σ' H' _ ⟨_, _, s⟩ => sq_of (s _ _ kl)) ?_ ?_
        · rintro i2 x σ' H4 H4' hi2 ⟨y11, rfl, s4⟩ ⟨rfl, hx⟩
          obtain ⟨nw, d, hD, hF, hok⟩ := all x (List.mem_of_getElem? hx)
          refine s_when (b := false) (et_test (ev_neRef hok (el_call (ea_cons (ev_var rfl) (ea_cons (ev_var rfl) ea_nil)) (sl_ref (ht2.same s4) ro (nw.same s4) (hD.same s4) hF)) (em_lst (ea_cons (ev_repr (ev_var rfl) (hD.same s4) hF) ea_nil) (by show 1 ≤ 100000; decide)).l)) (fun z => nomatch z) fun _ H5 e5 => ⟨_, rfl, s4.trans e5⟩
        · rintro σ' H4 ⟨y11, rfl, s4⟩
          exact ⟨_, _, _, _, _, _, _, _, _, _, _, _, rfl, s1.trans (s3.trans (sAll.trans s4))⟩
    · rintro σ' H1 ⟨y1, y2, y3, y4, y5, y6, y7, y8, y9, y10, y11, y12, rfl, s1⟩
      refine fun p1 n1 => fun p2 n2 => fun x dx nx ndx nex => ?_
      have ne12 : p1 ≠ p2 := fun e => by rw [← e, upd_same] at n2; cases n2
      have h1 : (upd (upd H1 p1 (.dK [])) p2 (.dK [])) p1 = some (.dK []) := (upd_ne ne12).trans upd_same
      have s4m : ∀ {p : Addr} {o : HO}, (upd (upd H1 p1 (.dK [])) p2 (.dK [])) p = some o → (upd (upd (upd (upd H1 p1 (.dK [])) p2 (.dK [])) dx (.own x)) x (.ins A.C dx [])) p = some o := fun e => by rw [upd_ne (ne_of_none e nx), upd_ne (ne_of_none e ndx)]; exact e
      refine ⟨x, dx, p1, p2, [], [], rfl, upd_same, s4m h1, s4m upd_same, rule_nil, fun H5 p pq np nq npq hx hp hq keep => ⟨rfl, ?_⟩⟩
      have ht : TabAt A.C H5 x [] [] := ⟨dx, p, pq, hx, hp, hq⟩
      have call : ∀ {z : Str} {H6 : Hp} {σ6 : L2.St} {ta : TE}, Ex H5 H6 → σ6[12]? = some (some (.ref x)) → Ev ta σ6 H6 (.str z) → upTo z 40 = true → Ev (StX.tCallO (cxOf CX0 P w K mg base sc_law_N "law" (defScope s_law) f cdv A' outer s H E).nox A.C (spCallT A.C A.CW) E0 (tVar 12) (tCons ta tNil)) σ6 H6 (.str z) := fun {z H6 σ6 ta} e6 h12 hz hu => by
        have wd : Wd z.cps.toList 40 := upTo_iff.mp (by rw [stL_of]; exact hu)
        have h2 := sp_callT (CW := A.CW) (ht.same e6) rule_nil wd
        rw [keyL_nil, stL_of] at h2
        exact ev_callO (ev_var h12) (ea_cons hz ea_nil) (tab_ins (ht.same e6)) h2
      refine s_ret (ev_is (ev_andV (ev_eqS (call (Ex.refl _) rfl ev_c (by decide +kernel)) ev_c) fun _ => ev_eqS (call (Ex.refl _) rfl (ev_op ev_c ev_c (rv_mulT (by decide) (by decide) (by decide +kernel))) (by decide +kernel)) (ev_op ev_c ev_c (rv_mulT (by decide) (by decide) (by decide +kernel)))) (show _ = V.bl true by simp)) fun H6 _ => q H6
end
end Nm


set_option Elab.async false
set_option linter.all false
set_option maxRecDepth 100000
set_option maxHeartbeats 4000000
namespace Nm
open PySem PySem.Spec PyProof.Rows L2 Evl
/-- an error of the class at S is what «except S» names -/
theorem exm_self {K : Fg} {S : Addr} (h1 : PySem.W.subIn K (.ref S) (.type "BaseException") = some true) (h2 : PySem.W.isClsIn K S = true) (h3 : PySem.W.typeIn K (.ref S) = some (.type "type")) (h4 : PySem.W.subIn K (.ref S) (.ref S) = some true) :
    PySem.W.exmOne K (.ref S) (.ref S) = some true := by
  have e1 : (PySem.W.subIn K (.ref S) (.type "BaseException") == some true) = true := by rw [h1] <;> rfl
  have e2 : ((PySem.W.clsIn K S).isSome && PySem.W.typeIn K (.ref S) == some (.type "type")) = true := by
    have h2' : (PySem.W.clsIn K S).isSome = true := h2
    rw [h2', h3] <;> rfl
  show (if (PySem.W.subIn K (.ref S) (.type "BaseException") == some true) = true then (if ((PySem.W.clsIn K S).isSome && PySem.W.typeIn K (.ref S) == some (.type "type")) = true then PySem.W.subIn K (.ref S) (.ref S) else none) else none) = some true
  rw [if_pos e1, if_pos e2]
  exact h4
theorem kit_ref {K : Fg} {D S : Addr} {b : Bool} (h2 : PySem.W.isClsIn K S = true) (h3 : PySem.W.typeIn K (.ref S) = some (.type "type")) (h4 : PySem.W.subIn K (.ref D) (.ref S) = some b) (h5 : PySem.W.subIn K (.ref D) (.ref D) = some true) : PySem.W.kitOne K (.ref D) (.ref S) = some b := by
  have e2 : ((PySem.W.clsIn K S).isSome && PySem.W.typeIn K (.ref S) == some (.type "type")) = true := by
    have h2' : (PySem.W.clsIn K S).isSome = true := h2
    rw [h2', h3] <;> rfl
  unfold PySem.W.kitOne
  by_cases h : (Value.ref D == Value.ref S) = true
  · have e : D = S := Value.ref.inj (beq_iff_eq.mp h)
    subst e
    rw [if_pos h, ← h5, h4]
  · rw [if_neg h]
    show (if ((PySem.W.clsIn K S).isSome && PySem.W.typeIn K (.ref S) == some (.type "type")) = true then PySem.W.subIn K (.ref D) (.ref S) else none) = some b
    rw [if_pos e2, h4]
theorem kit_bt {K : Fg} {D : Addr} {n : String} {b : Bool} (h2 : PySem.W.kitMeta n = true) (h4 : PySem.W.subIn K (.ref D) (.type n) = some b) : PySem.W.kitOne K (.ref D) (.type n) = some b := by
  show (if (Value.ref D == Value.type n) = true then some true else if PySem.W.kitMeta n = true then PySem.W.subIn K (.ref D) (.type n) else none) = some b
  rw [if_neg (by simp), if_pos h2, h4]
theorem all_mk {l : PySem.W.OpenLaw} {w : World} {K : Fg} {h : Heap} {mg : Str → Option Value} {fa : Addr} (X : K.In h) (G : h.Ns mainGlobals mg) (hfa : mg "law" = some (.ref fa))
    {C CW MC pf pm a1 a2 a3 a4 : Addr} {rsf rsm : List Value} {ddM : Option Addr} {tM1 tM2 tM3 : Tok} {nM : Nat} {slM : Array (Option Value)}
    {nm q : Str} {NW : Addr} {bs : List Value} {sn : List Str} {sub : List Value} {ab : Bool} {col : Option Bool} {dd : Option Addr} {m0 m1 m2 m3 m5 : Option Value}
    (nC : PySem.W.nsIn K mainGlobals "Table" = some (some (.ref C)))
    (nW : PySem.W.nsIn K mainGlobals "NoWord" = some (some (.ref CW)))
    (pF : PySem.W.findIn K (.ref C) "folds" = some (some (.ref pf)))
    (pM : PySem.W.findIn K (.ref C) "marks" = some (some (.ref pm)))
    {f_is_sign : Addr} {od_0 an_0 : Option Addr} {sl_0 : Array (Option Value)} {oc_0 kV_0 dc_0 pm_0 cd_0 ct_0 : Value}
    (a_is_sign : PySem.W.nsIn K mainGlobals "is_sign" = some (some (.ref f_is_sign))) (l_is_sign : K.lookup f_is_sign = some ⟨oc_0, od_0, .func (PySem.W.fnOf "is_sign" "is_sign" (defArgs s_is_sign) (defBody s_is_sign) (defScope s_is_sign) .none kV_0 dc_0 pm_0 an_0 cd_0 ct_0), sl_0⟩)
    (c_is_sign : PySem.W.codeIn K cd_0 "is_sign" = true) (k_is_sign : PySem.W.keepIn K (.ref f_is_sign) = true)
    {f_is_word : Addr} {od_1 an_1 : Option Addr} {sl_1 : Array (Option Value)} {oc_1 kV_1 dc_1 pm_1 cd_1 ct_1 : Value}
    (a_is_word : PySem.W.nsIn K mainGlobals "is_word" = some (some (.ref f_is_word))) (l_is_word : K.lookup f_is_word = some ⟨oc_1, od_1, .func (PySem.W.fnOf "is_word" "is_word" (defArgs s_is_word) (defBody s_is_word) (defScope s_is_word) .none kV_1 dc_1 pm_1 an_1 cd_1 ct_1), sl_1⟩)
    (c_is_word : PySem.W.codeIn K cd_1 "is_word" = true) (k_is_word : PySem.W.keepIn K (.ref f_is_word) = true)
    {f__is_word_up_to : Addr} {od_2 an_2 : Option Addr} {sl_2 : Array (Option Value)} {oc_2 kV_2 dc_2 pm_2 cd_2 ct_2 : Value}
    (a__is_word_up_to : PySem.W.nsIn K mainGlobals "_is_word_up_to" = some (some (.ref f__is_word_up_to))) (l__is_word_up_to : K.lookup f__is_word_up_to = some ⟨oc_2, od_2, .func (PySem.W.fnOf "_is_word_up_to" "_is_word_up_to" (defArgs s__is_word_up_to) (defBody s__is_word_up_to) (defScope s__is_word_up_to) .none kV_2 dc_2 pm_2 an_2 cd_2 ct_2), sl_2⟩)
    (c__is_word_up_to : PySem.W.codeIn K cd_2 "_is_word_up_to" = true) (k__is_word_up_to : PySem.W.keepIn K (.ref f__is_word_up_to) = true)
    {f__is_fold_word : Addr} {od_3 an_3 : Option Addr} {sl_3 : Array (Option Value)} {oc_3 kV_3 dc_3 pm_3 cd_3 ct_3 : Value}
    (a__is_fold_word : PySem.W.nsIn K mainGlobals "_is_fold_word" = some (some (.ref f__is_fold_word))) (l__is_fold_word : K.lookup f__is_fold_word = some ⟨oc_3, od_3, .func (PySem.W.fnOf "_is_fold_word" "_is_fold_word" (defArgs s__is_fold_word) (defBody s__is_fold_word) (defScope s__is_fold_word) .none kV_3 dc_3 pm_3 an_3 cd_3 ct_3), sl_3⟩)
    (c__is_fold_word : PySem.W.codeIn K cd_3 "_is_fold_word" = true) (k__is_fold_word : PySem.W.keepIn K (.ref f__is_fold_word) = true)
    {f_is_number : Addr} {od_4 an_4 : Option Addr} {sl_4 : Array (Option Value)} {oc_4 kV_4 dc_4 pm_4 cd_4 ct_4 : Value}
    (a_is_number : PySem.W.nsIn K mainGlobals "is_number" = some (some (.ref f_is_number))) (l_is_number : K.lookup f_is_number = some ⟨oc_4, od_4, .func (PySem.W.fnOf "is_number" "is_number" (defArgs s_is_number) (defBody s_is_number) (defScope s_is_number) .none kV_4 dc_4 pm_4 an_4 cd_4 ct_4), sl_4⟩)
    (c_is_number : PySem.W.codeIn K cd_4 "is_number" = true) (k_is_number : PySem.W.keepIn K (.ref f_is_number) = true)
    {f__is_mark_class : Addr} {od_5 an_5 : Option Addr} {sl_5 : Array (Option Value)} {oc_5 kV_5 dc_5 pm_5 cd_5 ct_5 : Value}
    (a__is_mark_class : PySem.W.nsIn K mainGlobals "_is_mark_class" = some (some (.ref f__is_mark_class))) (l__is_mark_class : K.lookup f__is_mark_class = some ⟨oc_5, od_5, .func (PySem.W.fnOf "_is_mark_class" "_is_mark_class" (defArgs s__is_mark_class) (defBody s__is_mark_class) (defScope s__is_mark_class) .none kV_5 dc_5 pm_5 an_5 cd_5 ct_5), sl_5⟩)
    (c__is_mark_class : PySem.W.codeIn K cd_5 "_is_mark_class" = true) (k__is_mark_class : PySem.W.keepIn K (.ref f__is_mark_class) = true)
    {f__check_folds : Addr} {od_6 an_6 : Option Addr} {sl_6 : Array (Option Value)} {oc_6 kV_6 dc_6 pm_6 cd_6 ct_6 : Value}
    (a__check_folds : PySem.W.nsIn K mainGlobals "_check_folds" = some (some (.ref f__check_folds))) (l__check_folds : K.lookup f__check_folds = some ⟨oc_6, od_6, .func (PySem.W.fnOf "_check_folds" "_check_folds" (defArgs s__check_folds) (defBody s__check_folds) (defScope s__check_folds) .none kV_6 dc_6 pm_6 an_6 cd_6 ct_6), sl_6⟩)
    (c__check_folds : PySem.W.codeIn K cd_6 "_check_folds" = true) (k__check_folds : PySem.W.keepIn K (.ref f__check_folds) = true)
    {f__check_marks : Addr} {od_7 an_7 : Option Addr} {sl_7 : Array (Option Value)} {oc_7 kV_7 dc_7 pm_7 cd_7 ct_7 : Value}
    (a__check_marks : PySem.W.nsIn K mainGlobals "_check_marks" = some (some (.ref f__check_marks))) (l__check_marks : K.lookup f__check_marks = some ⟨oc_7, od_7, .func (PySem.W.fnOf "_check_marks" "_check_marks" (defArgs s__check_marks) (defBody s__check_marks) (defScope s__check_marks) .none kV_7 dc_7 pm_7 an_7 cd_7 ct_7), sl_7⟩)
    (c__check_marks : PySem.W.codeIn K cd_7 "_check_marks" = true) (k__check_marks : PySem.W.keepIn K (.ref f__check_marks) = true)
    {f__check_sizes : Addr} {od_8 an_8 : Option Addr} {sl_8 : Array (Option Value)} {oc_8 kV_8 dc_8 pm_8 cd_8 ct_8 : Value}
    (a__check_sizes : PySem.W.nsIn K mainGlobals "_check_sizes" = some (some (.ref f__check_sizes))) (l__check_sizes : K.lookup f__check_sizes = some ⟨oc_8, od_8, .func (PySem.W.fnOf "_check_sizes" "_check_sizes" (defArgs s__check_sizes) (defBody s__check_sizes) (defScope s__check_sizes) .none kV_8 dc_8 pm_8 an_8 cd_8 ct_8), sl_8⟩)
    (c__check_sizes : PySem.W.codeIn K cd_8 "_check_sizes" = true) (k__check_sizes : PySem.W.keepIn K (.ref f__check_sizes) = true)
    {f__with_folds : Addr} {od_9 an_9 : Option Addr} {sl_9 : Array (Option Value)} {oc_9 kV_9 dc_9 pm_9 cd_9 ct_9 : Value}
    (a__with_folds : PySem.W.nsIn K mainGlobals "_with_folds" = some (some (.ref f__with_folds))) (l__with_folds : K.lookup f__with_folds = some ⟨oc_9, od_9, .func (PySem.W.fnOf "_with_folds" "_with_folds" (defArgs s__with_folds) (defBody s__with_folds) (defScope s__with_folds) .none kV_9 dc_9 pm_9 an_9 cd_9 ct_9), sl_9⟩)
    (c__with_folds : PySem.W.codeIn K cd_9 "_with_folds" = true) (k__with_folds : PySem.W.keepIn K (.ref f__with_folds) = true)
    {f__with_marks_in_order : Addr} {od_10 an_10 : Option Addr} {sl_10 : Array (Option Value)} {oc_10 kV_10 dc_10 pm_10 cd_10 ct_10 : Value}
    (a__with_marks_in_order : PySem.W.nsIn K mainGlobals "_with_marks_in_order" = some (some (.ref f__with_marks_in_order))) (l__with_marks_in_order : K.lookup f__with_marks_in_order = some ⟨oc_10, od_10, .func (PySem.W.fnOf "_with_marks_in_order" "_with_marks_in_order" (defArgs s__with_marks_in_order) (defBody s__with_marks_in_order) (defScope s__with_marks_in_order) .none kV_10 dc_10 pm_10 an_10 cd_10 ct_10), sl_10⟩)
    (c__with_marks_in_order : PySem.W.codeIn K cd_10 "_with_marks_in_order" = true) (k__with_marks_in_order : PySem.W.keepIn K (.ref f__with_marks_in_order) = true)
    {f__run_in_order : Addr} {od_11 an_11 : Option Addr} {sl_11 : Array (Option Value)} {oc_11 kV_11 dc_11 pm_11 cd_11 ct_11 : Value}
    (a__run_in_order : PySem.W.nsIn K mainGlobals "_run_in_order" = some (some (.ref f__run_in_order))) (l__run_in_order : K.lookup f__run_in_order = some ⟨oc_11, od_11, .func (PySem.W.fnOf "_run_in_order" "_run_in_order" (defArgs s__run_in_order) (defBody s__run_in_order) (defScope s__run_in_order) .none kV_11 dc_11 pm_11 an_11 cd_11 ct_11), sl_11⟩)
    (c__run_in_order : PySem.W.codeIn K cd_11 "_run_in_order" = true) (k__run_in_order : PySem.W.keepIn K (.ref f__run_in_order) = true)
    {f_key_of : Addr} {od_12 an_12 : Option Addr} {sl_12 : Array (Option Value)} {oc_12 kV_12 dc_12 pm_12 cd_12 ct_12 : Value}
    (a_key_of : PySem.W.nsIn K mainGlobals "key_of" = some (some (.ref f_key_of))) (l_key_of : K.lookup f_key_of = some ⟨oc_12, od_12, .func (PySem.W.fnOf "key_of" "key_of" (defArgs s_key_of) (defBody s_key_of) (defScope s_key_of) .none kV_12 dc_12 pm_12 an_12 cd_12 ct_12), sl_12⟩)
    (c_key_of : PySem.W.codeIn K cd_12 "key_of" = true) (k_key_of : PySem.W.keepIn K (.ref f_key_of) = true)
    {f__law_bag : Addr} {od_13 an_13 : Option Addr} {sl_13 : Array (Option Value)} {oc_13 kV_13 dc_13 pm_13 cd_13 ct_13 : Value}
    (a__law_bag : PySem.W.nsIn K mainGlobals "_law_bag" = some (some (.ref f__law_bag))) (l__law_bag : K.lookup f__law_bag = some ⟨oc_13, od_13, .func (PySem.W.fnOf "_law_bag" "_law_bag" (defArgs s__law_bag) (defBody s__law_bag) (defScope s__law_bag) .none kV_13 dc_13 pm_13 an_13 cd_13 ct_13), sl_13⟩)
    (c__law_bag : PySem.W.codeIn K cd_13 "_law_bag" = true) (k__law_bag : PySem.W.keepIn K (.ref f__law_bag) = true)
    {f__law_take : Addr} {od_14 an_14 : Option Addr} {sl_14 : Array (Option Value)} {oc_14 kV_14 dc_14 pm_14 cd_14 ct_14 : Value}
    (a__law_take : PySem.W.nsIn K mainGlobals "_law_take" = some (some (.ref f__law_take))) (l__law_take : K.lookup f__law_take = some ⟨oc_14, od_14, .func (PySem.W.fnOf "_law_take" "_law_take" (defArgs s__law_take) (defBody s__law_take) (defScope s__law_take) .none kV_14 dc_14 pm_14 an_14 cd_14 ct_14), sl_14⟩)
    (c__law_take : PySem.W.codeIn K cd_14 "_law_take" = true) (k__law_take : PySem.W.keepIn K (.ref f__law_take) = true)
    {f__law_rule : Addr} {od_15 an_15 : Option Addr} {sl_15 : Array (Option Value)} {oc_15 kV_15 dc_15 pm_15 cd_15 ct_15 : Value}
    (a__law_rule : PySem.W.nsIn K mainGlobals "_law_rule" = some (some (.ref f__law_rule))) (l__law_rule : K.lookup f__law_rule = some ⟨oc_15, od_15, .func (PySem.W.fnOf "_law_rule" "_law_rule" (defArgs s__law_rule) (defBody s__law_rule) (defScope s__law_rule) .none kV_15 dc_15 pm_15 an_15 cd_15 ct_15), sl_15⟩)
    (c__law_rule : PySem.W.codeIn K cd_15 "_law_rule" = true) (k__law_rule : PySem.W.keepIn K (.ref f__law_rule) = true)
    {f__law_word : Addr} {od_16 an_16 : Option Addr} {sl_16 : Array (Option Value)} {oc_16 kV_16 dc_16 pm_16 cd_16 ct_16 : Value}
    (a__law_word : PySem.W.nsIn K mainGlobals "_law_word" = some (some (.ref f__law_word))) (l__law_word : K.lookup f__law_word = some ⟨oc_16, od_16, .func (PySem.W.fnOf "_law_word" "_law_word" (defArgs s__law_word) (defBody s__law_word) (defScope s__law_word) .none kV_16 dc_16 pm_16 an_16 cd_16 ct_16), sl_16⟩)
    (c__law_word : PySem.W.codeIn K cd_16 "_law_word" = true) (k__law_word : PySem.W.keepIn K (.ref f__law_word) = true)
    {f__law_key : Addr} {od_17 an_17 : Option Addr} {sl_17 : Array (Option Value)} {oc_17 kV_17 dc_17 pm_17 cd_17 ct_17 : Value}
    (a__law_key : PySem.W.nsIn K mainGlobals "_law_key" = some (some (.ref f__law_key))) (l__law_key : K.lookup f__law_key = some ⟨oc_17, od_17, .func (PySem.W.fnOf "_law_key" "_law_key" (defArgs s__law_key) (defBody s__law_key) (defScope s__law_key) .none kV_17 dc_17 pm_17 an_17 cd_17 ct_17), sl_17⟩)
    (c__law_key : PySem.W.codeIn K cd_17 "_law_key" = true) (k__law_key : PySem.W.keepIn K (.ref f__law_key) = true)
    {f__law_refused : Addr} {od_18 an_18 : Option Addr} {sl_18 : Array (Option Value)} {oc_18 kV_18 dc_18 pm_18 cd_18 ct_18 : Value}
    (a__law_refused : PySem.W.nsIn K mainGlobals "_law_refused" = some (some (.ref f__law_refused))) (l__law_refused : K.lookup f__law_refused = some ⟨oc_18, od_18, .func (PySem.W.fnOf "_law_refused" "_law_refused" (defArgs s__law_refused) (defBody s__law_refused) (defScope s__law_refused) .none kV_18 dc_18 pm_18 an_18 cd_18 ct_18), sl_18⟩)
    (c__law_refused : PySem.W.codeIn K cd_18 "_law_refused" = true) (k__law_refused : PySem.W.keepIn K (.ref f__law_refused) = true)
    {f_law : Addr} {od_19 an_19 : Option Addr} {sl_19 : Array (Option Value)} {oc_19 kV_19 dc_19 pm_19 cd_19 ct_19 : Value}
    (a_law : PySem.W.nsIn K mainGlobals "law" = some (some (.ref f_law))) (l_law : K.lookup f_law = some ⟨oc_19, od_19, .func (PySem.W.fnOf "law" "law" (defArgs s_law) (defBody s_law) (defScope s_law) .none kV_19 dc_19 pm_19 an_19 cd_19 ct_19), sl_19⟩)
    (c_law : PySem.W.codeIn K cd_19 "law" = true) (k_law : PySem.W.keepIn K (.ref f_law) = true)
    {f_Table___init__ : Addr} {od_20 an_20 : Option Addr} {sl_20 : Array (Option Value)} {oc_20 kV_20 dc_20 pm_20 cd_20 ct_20 : Value}
    (a_Table___init__ : PySem.W.findIn K (.ref C) "__init__" = some (some (.ref f_Table___init__))) (l_Table___init__ : K.lookup f_Table___init__ = some ⟨oc_20, od_20, .func (PySem.W.fnOf "__init__" "Table.__init__" (defArgs s_Table___init__) (defBody s_Table___init__) (defScope s_Table___init__) .none kV_20 dc_20 pm_20 an_20 cd_20 ct_20), sl_20⟩)
    (c_Table___init__ : PySem.W.codeIn K cd_20 "Table.__init__" = true) (k_Table___init__ : PySem.W.keepIn K (.ref f_Table___init__) = true)
    {f_Table___call__ : Addr} {od_21 an_21 : Option Addr} {sl_21 : Array (Option Value)} {oc_21 kV_21 dc_21 pm_21 cd_21 ct_21 : Value}
    (a_Table___call__ : PySem.W.findIn K (.ref C) "__call__" = some (some (.ref f_Table___call__))) (l_Table___call__ : K.lookup f_Table___call__ = some ⟨oc_21, od_21, .func (PySem.W.fnOf "__call__" "Table.__call__" (defArgs s_Table___call__) (defBody s_Table___call__) (defScope s_Table___call__) .none kV_21 dc_21 pm_21 an_21 cd_21 ct_21), sl_21⟩)
    (c_Table___call__ : PySem.W.codeIn K cd_21 "Table.__call__" = true) (k_Table___call__ : PySem.W.keepIn K (.ref f_Table___call__) = true)
    {f_Table_folds : Addr} {od_22 an_22 : Option Addr} {sl_22 : Array (Option Value)} {oc_22 kV_22 dc_22 pm_22 cd_22 ct_22 : Value}
    (a_Table_folds : PySem.W.recIn K pf "property" = some (.ref f_Table_folds :: rsf)) (l_Table_folds : K.lookup f_Table_folds = some ⟨oc_22, od_22, .func (PySem.W.fnOf "folds" "Table.folds" (defArgs s_Table_folds) (defBody s_Table_folds) (defScope s_Table_folds) .none kV_22 dc_22 pm_22 an_22 cd_22 ct_22), sl_22⟩)
    (c_Table_folds : PySem.W.codeIn K cd_22 "Table.folds" = true) (k_Table_folds : PySem.W.keepIn K (.ref f_Table_folds) = true)
    {f_Table_marks : Addr} {od_23 an_23 : Option Addr} {sl_23 : Array (Option Value)} {oc_23 kV_23 dc_23 pm_23 cd_23 ct_23 : Value}
    (a_Table_marks : PySem.W.recIn K pm "property" = some (.ref f_Table_marks :: rsm)) (l_Table_marks : K.lookup f_Table_marks = some ⟨oc_23, od_23, .func (PySem.W.fnOf "marks" "Table.marks" (defArgs s_Table_marks) (defBody s_Table_marks) (defScope s_Table_marks) .none kV_23 dc_23 pm_23 an_23 cd_23 ct_23), sl_23⟩)
    (c_Table_marks : PySem.W.codeIn K cd_23 "Table.marks" = true) (k_Table_marks : PySem.W.keepIn K (.ref f_Table_marks) = true)
    {f_NoWord___init__ : Addr} {od_24 an_24 : Option Addr} {sl_24 : Array (Option Value)} {oc_24 kV_24 dc_24 pm_24 cd_24 ct_24 : Value}
    (a_NoWord___init__ : PySem.W.findIn K (.ref CW) "__init__" = some (some (.ref f_NoWord___init__))) (l_NoWord___init__ : K.lookup f_NoWord___init__ = some ⟨oc_24, od_24, .func (PySem.W.fnOf "__init__" "NoWord.__init__" (defArgs s_NoWord___init__) (defBody s_NoWord___init__) (defScope s_NoWord___init__) .none kV_24 dc_24 pm_24 an_24 cd_24 ct_24), sl_24⟩)
    (c_NoWord___init__ : PySem.W.codeIn K cd_24 "NoWord.__init__" = true) (k_NoWord___init__ : PySem.W.keepIn K (.ref f_NoWord___init__) = true)
    (z_isinstance : PySem.W.nsIn K mainGlobals "isinstance" = some none)
    (z_str : PySem.W.nsIn K mainGlobals "str" = some none)
    (z_int : PySem.W.nsIn K mainGlobals "int" = some none)
    (z_bool : PySem.W.nsIn K mainGlobals "bool" = some none)
    (z_len : PySem.W.nsIn K mainGlobals "len" = some none)
    (z_all : PySem.W.nsIn K mainGlobals "all" = some none)
    (z_any : PySem.W.nsIn K mainGlobals "any" = some none)
    (z_abs : PySem.W.nsIn K mainGlobals "abs" = some none)
    (z_repr : PySem.W.nsIn K mainGlobals "repr" = some none)
    (z_range : PySem.W.nsIn K mainGlobals "range" = some none)
    (z_max : PySem.W.nsIn K mainGlobals "max" = some none)
    (z_min : PySem.W.nsIn K mainGlobals "min" = some none)
    (z_list : PySem.W.nsIn K mainGlobals "list" = some none)
    (z_dict : PySem.W.nsIn K mainGlobals "dict" = some none)
    (z_sorted : PySem.W.nsIn K mainGlobals "sorted" = some none)
    (z_ValueError : PySem.W.nsIn K mainGlobals "ValueError" = some none)
    {t_SIGNS : Tok} (g_SIGNS : PySem.W.nsIn K mainGlobals "SIGNS" = some (some (.str SIGNS t_SIGNS)))
    {t_LONGEST_WORD : Tok} (g_LONGEST_WORD : PySem.W.nsIn K mainGlobals "LONGEST_WORD" = some (some (.int 40 t_LONGEST_WORD)))
    {t_LONGEST_FOLD : Tok} (g_LONGEST_FOLD : PySem.W.nsIn K mainGlobals "LONGEST_FOLD" = some (some (.int 3 t_LONGEST_FOLD)))
    {t_MOST_FOLDS : Tok} (g_MOST_FOLDS : PySem.W.nsIn K mainGlobals "MOST_FOLDS" = some (some (.int 40 t_MOST_FOLDS)))
    {t_MOST_MARKS : Tok} (g_MOST_MARKS : PySem.W.nsIn K mainGlobals "MOST_MARKS" = some (some (.int 8 t_MOST_MARKS)))
    (pFg : PySem.W.specialIn K (.ref pf) "__get__" = some (some (.builtin "property.__get__")))
    (pFt : PySem.W.takesIn K (.ref pf) = some true)
    (pMg : PySem.W.specialIn K (.ref pm) "__get__" = some (some (.builtin "property.__get__")))
    (pMt : PySem.W.takesIn K (.ref pm) = some true)
    (pg : PySem.W.plainGet K C Str.empty = true)
    (hd : PySem.W.hasDictIn K C = true)
    (po : PySem.W.plainOver K C = true)
    (sa : PySem.W.findIn K (.ref C) "__setattr__" = some (some (.builtin "object.__setattr__")))
    (mkC : PySem.W.makesIn K C = true)
    (kc : PySem.W.keepIn K (.ref C) = true)
    (noF : PySem.W.findIn K (.ref C) "_folds" = some none)
    (noM : PySem.W.findIn K (.ref C) "_marks" = some none)
    (fnI : PySem.W.isFn K (.ref f_Table___init__) = true)
    (fnC : PySem.W.isFn K (.ref f_Table___call__) = true)
    (fiC : PySem.W.fnIn K f_Table___call__ = true)
    (nMC : PySem.W.nsIn K mainGlobals "MARK_CLASSES" = some (some (.ref MC)))
    (kMC : K.lookup MC = some ⟨.type "tuple", ddM, .seq ([.int 1 tM1, .int 2 tM2, .int 3 tM3] : List Value).toArray nM, slM⟩)
    (xL : K.lookup CW = some (excClassObj nm q CW NW bs [.type "ValueError", .type "Exception", .type "BaseException", .type "object"] true sn sub ab col dd m0 m1 m2 m3 m5 "ValueError.__new__"))
    (wsa : PySem.W.findIn K (.ref CW) "__setattr__" = some (some (.builtin "object.__setattr__")))
    (wga : PySem.W.findIn K (.ref CW) "__getattribute__" = some (some (.builtin "BaseException.__getattribute__")))
    (wgg : PySem.W.findIn K (.ref CW) "__getattr__" = some none)
    (wnw : PySem.W.findIn K (.ref CW) "word" = some none)
    (wex : PySem.W.subIn K (.ref CW) (.type "BaseException") = some true)
    (wty : PySem.W.typeIn K (.ref CW) = some (.type "type"))
    (wkp : PySem.W.keepIn K (.ref CW) = true)
    (whd : PySem.W.hasDictIn K CW = true)
    (wic : PySem.W.isClsIn K CW = true)
    (wss : PySem.W.subIn K (.ref CW) (.ref CW) = some true)
    (wti : PySem.W.typeIn K (.ref f_NoWord___init__) = some (.type "function"))
    (wca : PySem.W.findIn K (.ref CW) "__class__" = some (some (.builtin "object.__class__")))
    (wcg : PySem.W.specialIn K (.builtin "object.__class__") "__get__" = some (some (.builtin "getset_descriptor.__get__")))
    (wct : PySem.W.takesIn K (.builtin "object.__class__") = some true)
    (wmo : PySem.W.mroIn K CW (.type "object") = some true)
    (e1n : PySem.W.nsIn K mainGlobals "NoFold" = some (some (.ref a1)))
    (e1k : PySem.W.subIn K (.ref CW) (.ref a1) = some false)
    (e1i : PySem.W.isClsIn K a1 = true)
    (e1t : PySem.W.typeIn K (.ref a1) = some (.type "type"))
    (e2n : PySem.W.nsIn K mainGlobals "NoPath" = some (some (.ref a2)))
    (e2k : PySem.W.subIn K (.ref CW) (.ref a2) = some false)
    (e2i : PySem.W.isClsIn K a2 = true)
    (e2t : PySem.W.typeIn K (.ref a2) = some (.type "type"))
    (e3n : PySem.W.nsIn K mainGlobals "NoSign" = some (some (.ref a3)))
    (e3k : PySem.W.subIn K (.ref CW) (.ref a3) = some false)
    (e3i : PySem.W.isClsIn K a3 = true)
    (e3t : PySem.W.typeIn K (.ref a3) = some (.type "type"))
    (e4n : PySem.W.nsIn K mainGlobals "NoText" = some (some (.ref a4)))
    (e4k : PySem.W.subIn K (.ref CW) (.ref a4) = some false)
    (e4i : PySem.W.isClsIn K a4 = true)
    (e4t : PySem.W.typeIn K (.ref a4) = some (.type "type"))
    (eVk : PySem.W.subIn K (.ref CW) (.type "ValueError") = some true)
    : ∃ fd : FuncData, (∀ (s : Shared) (v : Value), BindsTo s fd ⟨[v], []⟩ [("_law_script", v)]) ∧ ∀ base : Heap, K.In base → base.Ns mainGlobals mg → FnG l.prog w K mg base CX0 9 fa fd ["_law_script"] (spLaw K) := by
  have e := hfa.symm.trans (PySem.W.mg_of X G a_law)
  cases e
  have T : Txt K mg := { b_isinstance := PySem.W.mg_none_of X G z_isinstance, b_str := PySem.W.mg_none_of X G z_str, b_int := PySem.W.mg_none_of X G z_int, b_bool := PySem.W.mg_none_of X G z_bool, b_len := PySem.W.mg_none_of X G z_len, b_all := PySem.W.mg_none_of X G z_all, b_any := PySem.W.mg_none_of X G z_any, b_abs := PySem.W.mg_none_of X G z_abs, b_repr := PySem.W.mg_none_of X G z_repr, b_range := PySem.W.mg_none_of X G z_range, b_max := PySem.W.mg_none_of X G z_max, b_min := PySem.W.mg_none_of X G z_min, b_list := PySem.W.mg_none_of X G z_list, b_dict := PySem.W.mg_none_of X G z_dict, b_sorted := PySem.W.mg_none_of X G z_sorted, b_ValueError := PySem.W.mg_none_of X G z_ValueError, c_SIGNS := ⟨_, PySem.W.mg_of X G g_SIGNS, ⟨t_SIGNS, rfl⟩⟩, c_LONGEST_WORD := ⟨_, PySem.W.mg_of X G g_LONGEST_WORD, ⟨t_LONGEST_WORD, rfl⟩⟩, c_LONGEST_FOLD := ⟨_, PySem.W.mg_of X G g_LONGEST_FOLD, ⟨t_LONGEST_FOLD, rfl⟩⟩, c_MOST_FOLDS := ⟨_, PySem.W.mg_of X G g_MOST_FOLDS, ⟨t_MOST_FOLDS, rfl⟩⟩, c_MOST_MARKS := ⟨_, PySem.W.mg_of X G g_MOST_MARKS, ⟨t_MOST_MARKS, rfl⟩⟩ }
  have F_is_sign := fun_mk (st := s_is_sign) l_is_sign c_is_sign k_is_sign
  have b_is_sign := F_is_sign.binds (ps := ["thing"]) fun _ _ _ _ _ _ us hl => match us, hl with | [_], _ => rfl
  have F_is_word := fun_mk (st := s_is_word) l_is_word c_is_word k_is_word
  have b_is_word := F_is_word.binds (ps := ["thing"]) fun _ _ _ _ _ _ us hl => match us, hl with | [_], _ => rfl
  have F__is_word_up_to := fun_mk (st := s__is_word_up_to) l__is_word_up_to c__is_word_up_to k__is_word_up_to
  have b__is_word_up_to := F__is_word_up_to.binds (ps := ["thing", "most"]) fun _ _ _ _ _ _ us hl => match us, hl with | [_, _], _ => rfl
  have F__is_fold_word := fun_mk (st := s__is_fold_word) l__is_fold_word c__is_fold_word k__is_fold_word
  have b__is_fold_word := F__is_fold_word.binds (ps := ["thing"]) fun _ _ _ _ _ _ us hl => match us, hl with | [_], _ => rfl
  have F_is_number := fun_mk (st := s_is_number) l_is_number c_is_number k_is_number
  have b_is_number := F_is_number.binds (ps := ["thing"]) fun _ _ _ _ _ _ us hl => match us, hl with | [_], _ => rfl
  have F__is_mark_class := fun_mk (st := s__is_mark_class) l__is_mark_class c__is_mark_class k__is_mark_class
  have b__is_mark_class := F__is_mark_class.binds (ps := ["thing"]) fun _ _ _ _ _ _ us hl => match us, hl with | [_], _ => rfl
  have F__check_folds := fun_mk (st := s__check_folds) l__check_folds c__check_folds k__check_folds
  have b__check_folds := F__check_folds.binds (ps := ["folds"]) fun _ _ _ _ _ _ us hl => match us, hl with | [_], _ => rfl
  have F__check_marks := fun_mk (st := s__check_marks) l__check_marks c__check_marks k__check_marks
  have b__check_marks := F__check_marks.binds (ps := ["marks", "folds"]) fun _ _ _ _ _ _ us hl => match us, hl with | [_, _], _ => rfl
  have F__check_sizes := fun_mk (st := s__check_sizes) l__check_sizes c__check_sizes k__check_sizes
  have b__check_sizes := F__check_sizes.binds (ps := ["folds", "marks"]) fun _ _ _ _ _ _ us hl => match us, hl with | [_, _], _ => rfl
  have F__with_folds := fun_mk (st := s__with_folds) l__with_folds c__with_folds k__with_folds
  have b__with_folds := F__with_folds.binds (ps := ["folds", "text"]) fun _ _ _ _ _ _ us hl => match us, hl with | [_, _], _ => rfl
  have F__with_marks_in_order := fun_mk (st := s__with_marks_in_order) l__with_marks_in_order c__with_marks_in_order k__with_marks_in_order
  have b__with_marks_in_order := F__with_marks_in_order.binds (ps := ["marks", "text"]) fun _ _ _ _ _ _ us hl => match us, hl with | [_, _], _ => rfl
  have F__run_in_order := fun_mk (st := s__run_in_order) l__run_in_order c__run_in_order k__run_in_order
  have b__run_in_order := F__run_in_order.binds (ps := ["marks", "run"]) fun _ _ _ _ _ _ us hl => match us, hl with | [_, _], _ => rfl
  have F_key_of := fun_mk (st := s_key_of) l_key_of c_key_of k_key_of
  have b_key_of := F_key_of.binds (ps := ["table", "word"]) fun _ _ _ _ _ _ us hl => match us, hl with | [_, _], _ => rfl
  have F__law_bag := fun_mk (st := s__law_bag) l__law_bag c__law_bag k__law_bag
  have b__law_bag := F__law_bag.binds (ps := ["_law_script", "_law_at"]) fun _ _ _ _ _ _ us hl => match us, hl with | [_, _], _ => rfl
  have F__law_take := fun_mk (st := s__law_take) l__law_take c__law_take k__law_take
  have b__law_take := F__law_take.binds (ps := ["_law_bag_here", "_law_many"]) fun _ _ _ _ _ _ us hl => match us, hl with | [_, _], _ => rfl
  have F__law_rule := fun_mk (st := s__law_rule) l__law_rule c__law_rule k__law_rule
  have b__law_rule := F__law_rule.binds (ps := ["_law_bag_here"]) fun _ _ _ _ _ _ us hl => match us, hl with | [_], _ => rfl
  have F__law_word := fun_mk (st := s__law_word) l__law_word c__law_word k__law_word
  have b__law_word := F__law_word.binds (ps := ["_law_bag_here", "_law_most"]) fun _ _ _ _ _ _ us hl => match us, hl with | [_, _], _ => rfl
  have F__law_key := fun_mk (st := s__law_key) l__law_key c__law_key k__law_key
  have b__law_key := F__law_key.binds (ps := ["_law_rule_here", "_law_word_here"]) fun _ _ _ _ _ _ us hl => match us, hl with | [_, _], _ => rfl
  have F__law_refused := fun_mk (st := s__law_refused) l__law_refused c__law_refused k__law_refused
  have b__law_refused := F__law_refused.binds (ps := ["_law_table", "_law_thing"]) fun _ _ _ _ _ _ us hl => match us, hl with | [_, _], _ => rfl
  have F_law := fun_mk (st := s_law) l_law c_law k_law
  have b_law := F_law.binds (ps := ["_law_script"]) fun _ _ _ _ _ _ us hl => match us, hl with | [_], _ => rfl
  have F_Table___init__ := fun_mk (st := s_Table___init__) l_Table___init__ c_Table___init__ k_Table___init__
  have b_Table___init__ := F_Table___init__.binds (ps := ["self", "folds", "marks"]) fun _ _ _ _ _ _ us hl => match us, hl with | [_, _, _], _ => rfl
  have F_Table___call__ := fun_mk (st := s_Table___call__) l_Table___call__ c_Table___call__ k_Table___call__
  have b_Table___call__ := F_Table___call__.binds (ps := ["self", "word"]) fun _ _ _ _ _ _ us hl => match us, hl with | [_, _], _ => rfl
  have F_Table_folds := fun_mk (st := s_Table_folds) l_Table_folds c_Table_folds k_Table_folds
  have b_Table_folds := F_Table_folds.binds (ps := ["self"]) fun _ _ _ _ _ _ us hl => match us, hl with | [_], _ => rfl
  have F_Table_marks := fun_mk (st := s_Table_marks) l_Table_marks c_Table_marks k_Table_marks
  have b_Table_marks := F_Table_marks.binds (ps := ["self"]) fun _ _ _ _ _ _ us hl => match us, hl with | [_], _ => rfl
  have F_NoWord___init__ := fun_mk (st := s_NoWord___init__) l_NoWord___init__ c_NoWord___init__ k_NoWord___init__
  have b_NoWord___init__ := F_NoWord___init__.binds (ps := ["self", "word"]) fun _ _ _ _ _ _ us hl => match us, hl with | [_, _], _ => rfl
  refine ⟨PySem.W.fnOf "law" "law" (defArgs s_law) (defBody s_law) (defScope s_law) .none kV_19 dc_19 pm_19 an_19 cd_19 ct_19, fun s v => .of_eq rfl, fun base _ _ => ?_⟩
  have mgo := fun {x : Str} {v : Value} (z : PySem.W.nsIn K mainGlobals x = some (some v)) => PySem.W.mg_of X G z
  have TT : TabT K mg ⟨C, CW, MC, pf, f_Table_folds, pm, f_Table_marks, f_Table___call__, f_Table___init__, f_NoWord___init__⟩ :=
    { cl := ⟨pg, hd, po, sa⟩, nF := noF, nM := noM, mgC := mgo nC, p_folds := ⟨pF, pFg, pFt, rsf, a_Table_folds⟩, p_marks := ⟨pM, pMg, pMt, rsm, a_Table_marks⟩, co := ⟨a_Table___call__, fnC, fiC⟩, mkT := ⟨mkC, a_Table___init__, fnI, kc⟩,
      ow := ⟨⟨nm, q, NW, bs, _, sn, sub, ab, col, dd, m0, m1, m2, m3, m5, xL, by decide +kernel⟩, wsa, wex, wty, wkp⟩, nW := wnw, mgW := mgo nW, iW := a_NoWord___init__, tW := wti, xf := ⟨wga, wgg, wex, whd⟩, ex := ⟨wic, wga, wgg, wex, wca, wcg, wct, wmo⟩,
      te := exm_self wex wic wty wss, mMC := mgo nMC, kMC := ⟨ddM, tM1, tM2, tM3, nM, slM, kMC⟩ }
  have C_take : Cal l.prog w K mg base CX0 1 "_law_take" ["_law_bag_here", "_law_many"] spTake _ _ := ⟨ok__law_take F__law_take, mgo a__law_take, k__law_take, b__law_take⟩
  have C_bag : Cal l.prog w K mg base CX0 1 "_law_bag" ["_law_script", "_law_at"] (spBag K) _ _ := ⟨ok__law_bag F__law_bag T, mgo a__law_bag, k__law_bag, b__law_bag⟩
  have C_up : Cal l.prog w K mg base CX0 1 "_is_word_up_to" ["thing", "most"] spUp _ _ := ⟨ok__is_word_up_to F__is_word_up_to T, mgo a__is_word_up_to, k__is_word_up_to, b__is_word_up_to⟩
  have C_sign : Cal l.prog w K mg base CX0 2 "is_sign" ["thing"] spSg _ _ := ⟨ok_is_sign F_is_sign T, mgo a_is_sign, k_is_sign, b_is_sign⟩
  have C_word : Cal l.prog w K mg base CX0 2 "is_word" ["thing"] (spUpTo 40) _ _ := ⟨ok_is_word F_is_word T C_up, mgo a_is_word, k_is_word, b_is_word⟩
  have C_fw : Cal l.prog w K mg base CX0 2 "_is_fold_word" ["thing"] (spUpTo 3) _ _ := ⟨ok__is_fold_word F__is_fold_word T C_up, mgo a__is_fold_word, k__is_fold_word, b__is_fold_word⟩
  have C_num : Cal l.prog w K mg base CX0 1 "is_number" ["thing"] spNum _ _ := ⟨ok_is_number F_is_number T, mgo a_is_number, k_is_number, b_is_number⟩
  have C_cls : Cal l.prog w K mg base CX0 2 "_is_mark_class" ["thing"] spCls _ _ := ⟨ok__is_mark_class F__is_mark_class T TT C_num, mgo a__is_mark_class, k__is_mark_class, b__is_mark_class⟩
  have C_cf : Cal l.prog w K mg base CX0 3 "_check_folds" ["folds"] spChkF _ _ := ⟨ok__check_folds F__check_folds T C_sign C_fw, mgo a__check_folds, k__check_folds, b__check_folds⟩
  have C_cm : Cal l.prog w K mg base CX0 3 "_check_marks" ["marks", "folds"] spChkM _ _ := ⟨ok__check_marks F__check_marks T C_sign C_cls, mgo a__check_marks, k__check_marks, b__check_marks⟩
  have C_cs : Cal l.prog w K mg base CX0 1 "_check_sizes" ["folds", "marks"] spChkS _ _ := ⟨ok__check_sizes F__check_sizes T, mgo a__check_sizes, k__check_sizes, b__check_sizes⟩
  have C_init : CalM l.prog w K mg base CX0 4 ["self", "folds", "marks"] (spInitT C) _ _ := ⟨ok_init F_Table___init__ T TT C_cf C_cm (C_cs.up (by decide)), b_Table___init__⟩
  have C_wf : Cal l.prog w K mg base CX0 1 "_with_folds" ["folds", "text"] spFolded _ _ := ⟨ok__with_folds F__with_folds, mgo a__with_folds, k__with_folds, b__with_folds⟩
  have C_run : Cal l.prog w K mg base CX0 1 "_run_in_order" ["marks", "run"] spRun _ _ := ⟨ok__run_in_order F__run_in_order TT, mgo a__run_in_order, k__run_in_order, b__run_in_order⟩
  have C_wm : Cal l.prog w K mg base CX0 2 "_with_marks_in_order" ["marks", "text"] spMarks _ _ := ⟨ok__with_marks_in_order F__with_marks_in_order T C_run, mgo a__with_marks_in_order, k__with_marks_in_order, b__with_marks_in_order⟩
  have C_folds : CalM l.prog w K mg base CX0 1 ["self"] (spProp C "_folds") _ _ := ⟨ok_folds F_Table_folds T TT, b_Table_folds⟩
  have C_marks : CalM l.prog w K mg base CX0 1 ["self"] (spProp C "_marks") _ _ := ⟨ok_marks F_Table_marks T TT, b_Table_marks⟩
  have C_ko : Cal l.prog w K mg base CX0 4 "key_of" ["table", "word"] (spKeyOf C) _ _ := ⟨ok_key_of F_key_of TT C_wm (C_wf.up (by decide)), mgo a_key_of, k_key_of, b_key_of⟩
  have C_nowI : CalM l.prog w K mg base CX0 1 ["self", "word"] (spNoWI CW) _ _ := ⟨ok_noword F_NoWord___init__ TT, b_NoWord___init__⟩
  have C_call : CalM l.prog w K mg base (L2.CX l.prog w) 6 ["self", "word"] (spCallT C CW) _ _ := ⟨ok_call F_Table___call__ TT (C_word.up (by decide)) C_ko (C_nowI.up (by decide)), b_Table___call__⟩
  have C_rule : Cal l.prog w K mg base CX0 2 "_law_rule" ["_law_bag_here"] spRule _ _ := ⟨ok__law_rule F__law_rule T C_take, mgo a__law_rule, k__law_rule, b__law_rule⟩
  have C_wd : Cal l.prog w K mg base CX0 2 "_law_word" ["_law_bag_here", "_law_most"] spWord _ _ := ⟨ok__law_word F__law_word T C_take, mgo a__law_word, k__law_word, b__law_word⟩
  have C_key : Cal l.prog w K mg base CX0 1 "_law_key" ["_law_rule_here", "_law_word_here"] spKey _ _ := ⟨ok__law_key F__law_key T, mgo a__law_key, k__law_key, b__law_key⟩
  have C_ref : CalG l.prog w K mg base CX0 7 "_law_refused" ["_law_table", "_law_thing"] (spRef K C) _ _ := ⟨ok__law_refused F__law_refused T TT C_call ⟨mgo e1n, kit_ref e1i e1t e1k wss⟩ ⟨mgo e2n, kit_ref e2i e2t e2k wss⟩ ⟨mgo e3n, kit_ref e3i e3t e3k wss⟩ ⟨mgo e4n, kit_ref e4i e4t e4k wss⟩ (kit_bt (by decide +kernel) eVk), mgo a__law_refused, k__law_refused, b__law_refused⟩
  exact ok_law (k := 7) F_law T TT (C_bag.up (by decide)) (C_take.up (by decide)) (C_rule.up (by decide)) (C_wd.up (by decide)) (C_key.up (by decide)) C_ref (C_init.up (by decide)) (C_call.up (by decide))
end Nm
open PySem PySem.W PyProof.Rows in
set_option maxRecDepth 100000 in
set_option maxHeartbeats 0 in
theorem PySem.Challenge.cw_namesone_k05_keys_holds : PySem.Challenge.rw_namesone_k05_keys.Holds := by
  w_on; o_law; k_head; (case hw => w_witness2)
  k_fill
  refine Nm.walk_G (l := PySem.Challenge.rw_namesone_k05_keys) (n := 63) (k := 9) (x := "_law_script") (sp := Nm.spLaw) rfl (by decide) rfl ⟨rfl, by decide, by decide⟩ (fun w h Y => PySem.W.kIn_of Y) ?F (fun _ _ a ns hl _ hS => ⟨a, ns, rfl, hS, hl, fun _ => rfl⟩)
  case F =>
    intro w mg fa h KX G hmg
    refine' Nm.all_mk KX G hmg ?nC ?nW ?pF ?pM ?a_is_sign ?l_is_sign ?c_is_sign ?k_is_sign ?a_is_word ?l_is_word ?c_is_word ?k_is_word ?a__is_word_up_to ?l__is_word_up_to ?c__is_word_up_to ?k__is_word_up_to ?a__is_fold_word ?l__is_fold_word ?c__is_fold_word ?k__is_fold_word ?a_is_number ?l_is_number ?c_is_number ?k_is_number ?a__is_mark_class ?l__is_mark_class ?c__is_mark_class ?k__is_mark_class ?a__check_folds ?l__check_folds ?c__check_folds ?k__check_folds ?a__check_marks ?l__check_marks ?c__check_marks ?k__check_marks ?a__check_sizes ?l__check_sizes ?c__check_sizes ?k__check_sizes ?a__with_folds ?l__with_folds ?c__with_folds ?k__with_folds ?a__with_marks_in_order ?l__with_marks_in_order ?c__with_marks_in_order ?k__with_marks_in_order ?a__run_in_order ?l__run_in_order ?c__run_in_order ?k__run_in_order ?a_key_of ?l_key_of ?c_key_of ?k_key_of ?a__law_bag ?l__law_bag ?c__law_bag ?k__law_bag ?a__law_take ?l__law_take ?c__law_take ?k__law_take ?a__law_rule ?l__law_rule ?c__law_rule ?k__law_rule ?a__law_word ?l__law_word ?c__law_word ?k__law_word ?a__law_key ?l__law_key ?c__law_key ?k__law_key ?a__law_refused ?l__law_refused ?c__law_refused ?k__law_refused ?a_law ?l_law ?c_law ?k_law ?a_Table___init__ ?l_Table___init__ ?c_Table___init__ ?k_Table___init__ ?a_Table___call__ ?l_Table___call__ ?c_Table___call__ ?k_Table___call__ ?a_Table_folds ?l_Table_folds ?c_Table_folds ?k_Table_folds ?a_Table_marks ?l_Table_marks ?c_Table_marks ?k_Table_marks ?a_NoWord___init__ ?l_NoWord___init__ ?c_NoWord___init__ ?k_NoWord___init__ ?z_isinstance ?z_str ?z_int ?z_bool ?z_len ?z_all ?z_any ?z_abs ?z_repr ?z_range ?z_max ?z_min ?z_list ?z_dict ?z_sorted ?z_ValueError ?g_SIGNS ?g_LONGEST_WORD ?g_LONGEST_FOLD ?g_MOST_FOLDS ?g_MOST_MARKS ?pFg ?pFt ?pMg ?pMt ?pg ?hd ?po ?sa ?mkC ?kc ?noF ?noM ?fnI ?fnC ?fiC ?nMC ?kMC ?xL ?wsa ?wga ?wgg ?wnw ?wex ?wty ?wkp ?whd ?wic ?wss ?wti ?wca ?wcg ?wct ?wmo ?e1n ?e1k ?e1i ?e1t ?e2n ?e2k ?e2i ?e2t ?e3n ?e3k ?e3i ?e3t ?e4n ?e4k ?e4i ?e4t ?eVk
    (case nC => k_is)
    (case nW => k_is)
    (case pF => k_is)
    (case pM => k_is)
    (case a_is_sign => k_is)
    (case l_is_sign => k_is)
    (case c_is_sign => k_is)
    (case k_is_sign => k_is)
    (case a_is_word => k_is)
    (case l_is_word => k_is)
    (case c_is_word => k_is)
    (case k_is_word => k_is)
    (case a__is_word_up_to => k_is)
    (case l__is_word_up_to => k_is)
    (case c__is_word_up_to => k_is)
    (case k__is_word_up_to => k_is)
    (case a__is_fold_word => k_is)
    (case l__is_fold_word => k_is)
    (case c__is_fold_word => k_is)
    (case k__is_fold_word => k_is)
    (case a_is_number => k_is)
    (case l_is_number => k_is)
    (case c_is_number => k_is)
    (case k_is_number => k_is)
    (case a__is_mark_class => k_is)
    (case l__is_mark_class => k_is)
    (case c__is_mark_class => k_is)
    (case k__is_mark_class => k_is)
    (case a__check_folds => k_is)
    (case l__check_folds => k_is)
    (case c__check_folds => k_is)
    (case k__check_folds => k_is)
    (case a__check_marks => k_is)
    (case l__check_marks => k_is)
    (case c__check_marks => k_is)
    (case k__check_marks => k_is)
    (case a__check_sizes => k_is)
    (case l__check_sizes => k_is)
    (case c__check_sizes => k_is)
    (case k__check_sizes => k_is)
    (case a__with_folds => k_is)
    (case l__with_folds => k_is)
    (case c__with_folds => k_is)
    (case k__with_folds => k_is)
    (case a__with_marks_in_order => k_is)
    (case l__with_marks_in_order => k_is)
    (case c__with_marks_in_order => k_is)
    (case k__with_marks_in_order => k_is)
    (case a__run_in_order => k_is)
    (case l__run_in_order => k_is)
    (case c__run_in_order => k_is)
    (case k__run_in_order => k_is)
    (case a_key_of => k_is)
    (case l_key_of => k_is)
    (case c_key_of => k_is)
    (case k_key_of => k_is)
    (case a__law_bag => k_is)
    (case l__law_bag => k_is)
    (case c__law_bag => k_is)
    (case k__law_bag => k_is)
    (case a__law_take => k_is)
    (case l__law_take => k_is)
    (case c__law_take => k_is)
    (case k__law_take => k_is)
    (case a__law_rule => k_is)
    (case l__law_rule => k_is)
    (case c__law_rule => k_is)
    (case k__law_rule => k_is)
    (case a__law_word => k_is)
    (case l__law_word => k_is)
    (case c__law_word => k_is)
    (case k__law_word => k_is)
    (case a__law_key => k_is)
    (case l__law_key => k_is)
    (case c__law_key => k_is)
    (case k__law_key => k_is)
    (case a__law_refused => k_is)
    (case l__law_refused => k_is)
    (case c__law_refused => k_is)
    (case k__law_refused => k_is)
    (case a_law => k_is)
    (case l_law => k_is)
    (case c_law => k_is)
    (case k_law => k_is)
    (case a_Table___init__ => k_is)
    (case l_Table___init__ => k_is)
    (case c_Table___init__ => k_is)
    (case k_Table___init__ => k_is)
    (case a_Table___call__ => k_is)
    (case l_Table___call__ => k_is)
    (case c_Table___call__ => k_is)
    (case k_Table___call__ => k_is)
    (case a_Table_folds => k_is)
    (case l_Table_folds => k_is)
    (case c_Table_folds => k_is)
    (case k_Table_folds => k_is)
    (case a_Table_marks => k_is)
    (case l_Table_marks => k_is)
    (case c_Table_marks => k_is)
    (case k_Table_marks => k_is)
    (case a_NoWord___init__ => k_is)
    (case l_NoWord___init__ => k_is)
    (case c_NoWord___init__ => k_is)
    (case k_NoWord___init__ => k_is)
    (case z_isinstance => k_is)
    (case z_str => k_is)
    (case z_int => k_is)
    (case z_bool => k_is)
    (case z_len => k_is)
    (case z_all => k_is)
    (case z_any => k_is)
    (case z_abs => k_is)
    (case z_repr => k_is)
    (case z_range => k_is)
    (case z_max => k_is)
    (case z_min => k_is)
    (case z_list => k_is)
    (case z_dict => k_is)
    (case z_sorted => k_is)
    (case z_ValueError => k_is)
    (case g_SIGNS => k_is)
    (case g_LONGEST_WORD => k_is)
    (case g_LONGEST_FOLD => k_is)
    (case g_MOST_FOLDS => k_is)
    (case g_MOST_MARKS => k_is)
    (case pFg => k_is)
    (case pFt => k_is)
    (case pMg => k_is)
    (case pMt => k_is)
    (case pg => k_is)
    (case hd => k_is)
    (case po => k_is)
    (case sa => k_is)
    (case mkC => k_is)
    (case kc => k_is)
    (case noF => k_is)
    (case noM => k_is)
    (case fnI => k_is)
    (case fnC => k_is)
    (case fiC => k_is)
    (case nMC => k_is)
    (case kMC => k_is)
    (case xL => k_is)
    (case wsa => k_is)
    (case wga => k_is)
    (case wgg => k_is)
    (case wnw => k_is)
    (case wex => k_is)
    (case wty => k_is)
    (case wkp => k_is)
    (case whd => k_is)
    (case wic => k_is)
    (case wss => k_is)
    (case wti => k_is)
    (case wca => k_is)
    (case wcg => k_is)
    (case wct => k_is)
    (case wmo => k_is)
    (case e1n => k_is)
    (case e1k => k_is)
    (case e1i => k_is)
    (case e1t => k_is)
    (case e2n => k_is)
    (case e2k => k_is)
    (case e2i => k_is)
    (case e2t => k_is)
    (case e3n => k_is)
    (case e3k => k_is)
    (case e3i => k_is)
    (case e3t => k_is)
    (case e4n => k_is)
    (case e4k => k_is)
    (case e4i => k_is)
    (case e4t => k_is)
    (case eVk => k_is)



package trust

import (
	"bytes"
	"slices"
	"strings"

	"admission/api"
	"admission/document"
	"admission/keytree"
)

// A registry is a valid root document with the IDs of its keys, by which they are found. The zero registry belongs to a root document that is not valid: it has no keys and no quotas, so nobody vouches for anything.
type registry struct {
	api.Root
	ids []api.Digest
}

// Valid reports whether r can be in force.
func Valid(r api.Root) bool {
	_, ok := open(r)
	return ok
}

// open returns the registry of r, and whether r is valid.
func open(r api.Root) (registry, bool) {
	if !within(1, r.Version) || !within(0, r.Expires) || !validQuotas(r.Quotas) || !validRevoked(r.Revoked) || !each(r.Keys, api.MaxKeys, validKey) || !replaceable(r) {
		return registry{}, false
	}
	ids := make([]api.Digest, 0, len(r.Keys))
	for _, k := range r.Keys {
		ids = append(ids, keytree.ID(k.Public))
	}
	if !ascending(ids, compareDigests) {
		return registry{}, false
	}
	return registry{Root: r, ids: ids}, true
}

func validQuotas(l []api.Quota) bool {
	return each(l, api.MaxRoles, validQuota) && ascending(l, func(a, b api.Quota) int { return strings.Compare(a.Role, b.Role) })
}

func validQuota(q api.Quota) bool {
	return document.Name(q.Role) && 1 <= q.Need && q.Need <= api.MaxKeys
}

func validKey(k api.Key) bool {
	return keytree.Valid(k.Public) && document.Name(k.Owner) && len(k.Roles) > 0 && validRoles(k.Roles) && within(0, k.From) && k.From < k.Until && within(0, k.Until)
}

func validRoles(l []string) bool {
	return each(l, api.MaxRoles, document.Name) && ascending(l, strings.Compare)
}

func validRevoked(l []api.Revocation) bool {
	return each(l, api.MaxRevoked, validRevocation) && ascending(l, func(a, b api.Revocation) int { return compareDigests(a.Key, b.Key) })
}

func validRevocation(x api.Revocation) bool { return within(0, x.At) }

// replaceable reports whether r has enough owners who may sign its successor. When their keys count does not matter.
func replaceable(r api.Root) bool {
	owners := map[string]bool{}
	for _, k := range r.Keys {
		if slices.Contains(k.Roles, api.RoleRoot) {
			owners[k.Owner] = true
		}
	}
	return suffices(len(owners), quota(r.Quotas, api.RoleRoot))
}

// suffices reports whether this number of owners is enough. The need of a role without a quota is 0, and no number of owners is enough for it.
func suffices(owners, need int) bool { return need > 0 && owners >= need }

// quota returns the Need of this role, 0 if there is none.
func quota(l []api.Quota, role string) int {
	for _, q := range l {
		if q.Role == role {
			return q.Need
		}
	}
	return 0
}

// within reports whether n is from low to MaxNumber.
func within(low, n int64) bool { return low <= n && n <= api.MaxNumber }

// each reports whether l has no more than most elements, all of them correct.
func each[T any](l []T, most int, correct func(T) bool) bool {
	return len(l) <= most && !slices.ContainsFunc(l, func(x T) bool { return !correct(x) })
}

// ascending reports whether each element of l is greater than the one before it.
func ascending[T any](l []T, compare func(a, b T) int) bool {
	for i := 1; i < len(l); i++ {
		if compare(l[i-1], l[i]) >= 0 {
			return false
		}
	}
	return true
}

func compareDigests(a, b api.Digest) int { return bytes.Compare(a[:], b[:]) }

// key returns the key with this ID. It shares memory with g.
func (g registry) key(id api.Digest) (api.Key, bool) {
	i, found := slices.BinarySearchFunc(g.ids, id, compareDigests)
	if !found {
		return api.Key{}, false
	}
	return g.Keys[i], true
}

// revokedAt returns the time from which on the key with this ID is revoked.
func (g registry) revokedAt(id api.Digest) (int64, bool) {
	i, found := slices.BinarySearchFunc(g.Revoked, id, func(x api.Revocation, id api.Digest) int { return compareDigests(x.Key, id) })
	if !found {
		return 0, false
	}
	return g.Revoked[i].At, true
}

// counting returns the key with this ID if it counts at the time t.
func (g registry) counting(id api.Digest, t int64) (api.Key, bool) {
	k, known := g.key(id)
	at, revoked := g.revokedAt(id)
	if !known || t < k.From || t >= k.Until || t >= g.Expires || revoked && at <= t {
		return api.Key{}, false
	}
	return k, true
}

// vouched returns the owners of those of the keys that count at the time t and have this role.
func (g registry) vouched(role string, keys []api.Digest, t int64) []string {
	var owners []string
	for _, id := range keys {
		if k, counts := g.counting(id, t); counts && slices.Contains(k.Roles, role) {
			owners = append(owners, k.Owner)
		}
	}
	slices.Sort(owners)
	return slices.Compact(owners)
}

// enough reports whether the owners of the keys suffice for a document of this role.
func (g registry) enough(role string, keys []api.Digest, t int64) bool {
	return suffices(len(g.vouched(role, keys, t)), quota(g.Quotas, role))
}

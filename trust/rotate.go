package trust

import (
	"slices"

	"admission/api"
)

// Rotate returns the root document of a payload that replaces r.
func Rotate(r api.Root, payload []byte, keys []api.Digest, t int64) (api.Root, api.Errno) {
	old, ok := open(r)
	if !ok {
		return api.Root{}, api.ErrInvalid
	}
	next, e := Decode(payload)
	if e != api.OK {
		return api.Root{}, e
	}
	// What is decoded is valid.
	successor, _ := open(next)
	switch {
	case next.Version != r.Version+1:
		return api.Root{}, api.ErrOrder
	case !keepsRevoked(old, successor):
		return api.Root{}, api.ErrInvalid
	case !old.enough(api.RoleRoot, keys, t), !successor.enough(api.RoleRoot, keys, t):
		return api.Root{}, api.ErrSignature
	}
	return next, api.OK
}

// keepsRevoked reports whether each key that is revoked in a is revoked in b, and not later.
func keepsRevoked(a, b registry) bool {
	for _, x := range a.Revoked {
		if at, revoked := b.revokedAt(x.Key); !revoked || at > x.At {
			return false
		}
	}
	return true
}

// Changed returns the IDs of the keys and the roles in which a and b differ. If all is true, other keys may count otherwise, too.
func Changed(a, b api.Root) (keys []api.Digest, roles []string, all bool) {
	x, okA := open(a)
	y, okB := open(b)
	if !okA || !okB {
		return nil, nil, true
	}
	for _, id := range namedKeys(x, y) {
		if !sameKey(x, y, id) || !sameRevocation(x, y, id) {
			keys = append(keys, id)
		}
	}
	for _, role := range namedRoles(x, y) {
		if quota(x.Quotas, role) != quota(y.Quotas, role) {
			roles = append(roles, role)
		}
	}
	return keys, roles, a.Expires != b.Expires
}

// namedKeys returns the IDs of the keys and revocations of a and b, in ascending order.
func namedKeys(a, b registry) []api.Digest {
	l := slices.Concat(a.ids, b.ids)
	for _, x := range slices.Concat(a.Revoked, b.Revoked) {
		l = append(l, x.Key)
	}
	slices.SortFunc(l, compareDigests)
	return slices.Compact(l)
}

// namedRoles returns the roles of the quotas of a and b, in ascending order.
func namedRoles(a, b registry) []string {
	var l []string
	for _, q := range slices.Concat(a.Quotas, b.Quotas) {
		l = append(l, q.Role)
	}
	slices.Sort(l)
	return slices.Compact(l)
}

// sameKey reports whether a and b have equal keys with this ID, or both have none.
func sameKey(a, b registry, id api.Digest) bool {
	x, inA := a.key(id)
	y, inB := b.key(id)
	return inA == inB && x.Owner == y.Owner && x.From == y.From && x.Until == y.Until && slices.Equal(x.Roles, y.Roles)
}

// sameRevocation reports whether a and b revoke the key with this ID from the same time on, or both do not.
func sameRevocation(a, b registry, id api.Digest) bool {
	x, inA := a.revokedAt(id)
	y, inB := b.revokedAt(id)
	return inA == inB && x == y
}

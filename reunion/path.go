package reunion

import "reunion/api"

func isPath(path string) bool {
	if len(path) < 1 || len(path) > api.MaxPath {
		return false
	}
	for i := range len(path) {
		if !isPathByte(path[i]) {
			return false
		}
	}
	return true
}

func isPathByte(b byte) bool { return b == '/' || 'a' <= b && b <= 'z' }
